/-
  The program's Make by its contract. Condition: lists no longer than a process can hold.
-/
import Derived.Test.YtaafeflbanoncaaCmn
import Derived.Deep.AppendLies
import Derived.StringKeys
namespace Go.Proofs.Ytaafeflbanoncaa
open Go.RowKit Go.Lib Go.Maps

theorem Try.info47 : (Try.prog.info? 58).map (fun i => (i.zero, i.size, i.bytes)) = some (some (.agg #[.int .i64 0, .slice none 0 0]), 2, 32) := by kernel_rfl
theorem block_setCell {w : World} {b : Nat} {cs : Array Value} {t : TypeId} {fr : Nat × Nat} (h : w.heap[b]? = some (.cells cs t fr)) (j : Nat) (u : Value) : (w.setCell ⟨b, j, none⟩ u).heap[b]? = some (.cells (cs.set! j u) t fr) := by
  have hlt := lt_of_block h
  have h' : w.heap[b] = .cells cs t fr := by simpa [Array.getElem?_eq_getElem hlt] using h
  show (w.heap.modify b _)[b]? = _
  rw [Array.getElem?_eq_getElem (by simpa using hlt), Array.getElem_modify_self, h']
  rfl
theorem ZBk.ne {w : World} {b b' : Nat} {L : List Int} {cs : Array Value} {T : TypeId} {f : Nat × Nat} (h : ZBk w b L) (h' : w.heap[b']? = some (.cells cs T f)) (hT : T ≠ 3) : b ≠ b' := fun e => by
  obtain ⟨cs', h1, _⟩ := h
  subst e
  rw [h1] at h'
  simp at h'
  exact hT h'.2.1.symm
theorem ZBk.ne_map {w : World} {b b' : Nat} {L : List Int} {es : _} {cl : _} (h : ZBk w b L) (h' : w.heap[b']? = some (.map es cl)) : b ≠ b' := fun e => by
  obtain ⟨cs', h1, _⟩ := h
  subst e
  rw [h1] at h'
  cases h'
theorem keyL_is (lv : Int) (A : List Int) : (⟨(keyB lv A).toArray⟩ : ByteArray).data.toList = keyB lv A := by simp
theorem keyOf_node (lv : Int) (A : List Int) (h : A.length ≤ 256) : keyOf Try.prog 9 (.string ⟨(keyB lv A).toArray⟩) = some (keyL (lv, A)) := by
  have := WideMaps.keyOf_string_mk (P := Try.prog) (k := 9) Try.underlying9 (s := ⟨(keyB lv A).toArray⟩) (by
    have := keyB_length lv A
    simp only [ByteArray.size, List.size_toArray]
    unfold maxLen; omega)
  rw [this]
  simp [keyL]
theorem keyL_key (x : Nd) : WideAt.IsKeyLit (keyL x) := by unfold keyL; trivial
/-- What a map says of a key that it has. -/
theorem MpAt.hit {D : DataW Unit} {A : List Lit} (h : ∀ i (h : i < A.length), D.atKey A[i] (.lit (.int .i64 0)) = .lit (.int .i64 ((i : Int) + 2))) {kl : Lit} {c : Int} (hc : D.atKey kl (.lit (.int .i64 0)) = .lit (.int .i64 c)) (hm : kl ∈ A) : ∃ i, ∃ h : i < A.length, A[i] = kl ∧ c = (i : Int) + 2 := by
  obtain ⟨i, hi, e⟩ := List.mem_iff_getElem.1 hm
  refine ⟨i, hi, e, ?_⟩
  have := h i hi
  rw [e, hc] at this
  injection this with this
  injection this with _ this
theorem MpAt.put {w' : World} {b m : Nat} {A : List Lit} {kl : Lit} {D : DataW Unit} (hk : WideAt.IsKeyLit kl) (hn : kl ∉ A) (hm : IsMap D) (hh : ∀ kl, Maps.has D kl = true ↔ kl ∈ A ∨ kl ∈ ([] : List Lit)) (ha : ∀ i (h : i < A.length), D.atKey A[i] (.lit (.int .i64 0)) = .lit (.int .i64 ((i : Int) + 2)))
    (h1 : w'.ownsMap Try.prog 9 (plainElem Try.prog 3) b (m + 1) (D.put kl (.lit (.int .i64 ((A.length : Int) + 2))))) : MpAt w' b (m + 1) (A ++ [kl]) [] := by
  refine ⟨_, h1, fun x => ?_, fun i hi => ?_⟩
  · by_cases hx : x = kl
    · subst hx
      rw [Maps.has_put_same hm hk]
      simp
    · rw [Maps.has_put_other hx, hh x]
      simp [hx]
  · by_cases hi2 : i < A.length
    · rw [List.getElem_append_left hi2, Maps.atKey_put_other (fun e => hn (by rw [← e]; exact List.getElem_mem hi2))]
      exact ha i hi2
    · have : i = A.length := by rw [List.length_append, List.length_singleton] at hi; omega
      subst this
      rw [List.getElem_append_right (Nat.le_refl _)]
      simp only [Nat.sub_self, List.getElem_cons_zero]
      exact Maps.atKey_put_same hm hk _ _
theorem own_ne_map {w : World} {b m : Nat} {A B : List Lit} {base size n : Nat} {e : TypeId} {v : Value} {xs : List Value} (h : MpAt w b m A B) (ho : w.ownsRow base e size v n xs) : ¬ v.ownBlock = some b := fun hf => by
  obtain ⟨es, cl, h1⟩ := h.blk
  obtain ⟨cs, h2⟩ := own_ty ho b hf
  rw [h1] at h2
  cases h2
section
variable {w : World} {a : Nat} {S : List Int} {M : Int} {R : List ND} {N : List Nd} {m : Nat} {P : Nat → Prop} {sb sc mb : Nat} {nv : Value}
/-- A node more. -/
theorem CAx.add (h : CAx w a S M R m P sb sc nv mb) {w3 w4 w6 : World} (x3 : Below w.heap.size w w3) {lv : Int} {A : List Int} {g c : Nat} (z : ZBk w3 g A) (hg : w.heap.size ≤ g)
    (h1 : May S (R.map ND.nd) lv A) (h2 : ¬ One A) (h3 : (lv, A) ∉ R.map ND.nd) (hf : ((R.map ND.nd).length : Int) < M) {nv' : Value} (h4 : w4.ownsRow 0 58 2 nv' (R.length + 1) (ndC R ++ [.int .i64 lv, .slice (some ⟨g, 0, none⟩) A.length c])) (g4 : w3.grownBy w4 nv.ownBlock)
    (l4 : ∀ k, nv'.ownBlock = some k → nv.ownBlock = some k ∨ w3.heap.size ≤ k) (h6 : MpAt w6 mb (m + 1) ((R.map fun x => keyL x.nd) ++ [keyL (lv, A)]) []) (t6 : (w4.setCell ⟨a, 2, none⟩ nv').mapTurned w6 mb) :
    ∃ P', CA w6 a S M (R.map ND.nd ++ [(lv, A)]) (m + 1) P' ∧ Kept P w w6 ∧ ∀ k, P' k → P k ∨ w.heap.size ≤ k := by
  have H3 := h.below x3
  have k34 : Kept (fun k => nv.ownBlock = some k) w3 w4 := kept_of_grown g4
  have k45 : Kept (fun k => k = a) w4 (w4.setCell ⟨a, 2, none⟩ nv') := Kept.setCell (F := fun k => k = a) (p := ⟨a, 2, none⟩) (Kept.refl _ _) rfl _
  have k56 : Kept (fun k => k = mb) (w4.setCell ⟨a, 2, none⟩ nv') w6 := (kept_of_grown t6.grown).mono (fun b hb => by injection hb with hb; exact hb.symm)
  have kk : Kept (fun k => nv.ownBlock = some k ∨ k = a ∨ k = mb) w3 w6 := ((k34.mono (fun _ h => .inl h)).trans (k45.mono (fun _ h => .inr (.inl h)))).trans (k56.mono (fun _ h => .inr (.inr h)))
  obtain ⟨es, cl, hmb⟩ := H3.map.blk
  have zk : ∀ {b : Nat} {L : List Int}, ZBk w3 b L → ZBk w6 b L := fun hz => hz.kept kk (fun hF => by
    rcases hF with hF | hF | hF
    · obtain ⟨cs, h5⟩ := own_ty H3.row _ hF
      exact hz.ne h5 (by decide) rfl
    · exact hz.ne H3.blk (by decide) hF
    · exact hz.ne_map hmb hF)
  have ha4 : ¬ nv.ownBlock = some a := fun hF => by
    obtain ⟨cs, h5⟩ := own_ty H3.row _ hF
    rw [H3.blk] at h5
    simp at h5
  have hb4 := (k34.block a (lt_of_block H3.blk) ha4).trans H3.blk
  have ham : a ≠ mb := fun e => by subst e; rw [H3.blk] at hmb; cases hmb
  have hb5 : (w4.setCell ⟨a, 2, none⟩ nv').heap[a]? = some (.cells #[.slice (some ⟨sb, 0, none⟩) S.length sc, .int .i64 M, nv', .map (some mb)] 76 (0, 0)) := by
    have := block_setCell hb4 2 nv'
    simpa using this
  have hb6 := (k56.block a (lt_of_block hb5) ham).trans hb5
  have row6 : w6.ownsRow 0 58 2 nv' (R.length + 1) (ndC (R ++ [⟨lv, A, g, c⟩])) := by
    rw [ndC_append]
    refine own_kept (own_kept h4 k45 (fun k hk e => ?_)) k56 (fun k hk e => ?_)
    · subst e
      obtain ⟨cs, h5⟩ := own_ty h4 _ hk
      rw [hb4] at h5
      simp at h5
    · subst e
      rcases l4 _ hk with h5 | h5
      · exact own_ne_map H3.map H3.row h5
      · have := H3.map.lt
        omega
  have hsz := kk.size
  refine ⟨fun k => k < w6.heap.size ∧ (P k ∨ w.heap.size ≤ k), ⟨R ++ [⟨lv, A, g, c⟩], sb, sc, nv', mb, ⟨hb6, zk H3.sz, by rw [List.length_append]; exact row6, fun x hx => ?_, by rw [List.map_append]; exact h6, ?_, ?_, fun k hk => ?_, ?_, fun x hx => ?_, fun k hk => hk.1, by rw [List.map_append]; exact h.ok.add h1 h2 h3 hf⟩, by rw [List.map_append]; rfl⟩, ?_, fun k hk => hk.2⟩
  · rcases List.mem_append.1 hx with hx | hx
    · exact zk (H3.kid x hx)
    · obtain rfl := List.mem_singleton.1 hx
      exact zk z
  · exact ⟨by have := H3.plt a h.pa; omega, .inl h.pa⟩
  · exact ⟨by have := H3.plt sb h.ps; omega, .inl h.ps⟩
  · refine ⟨(World.ownsRow.lt row6 k hk).2, ?_⟩
    rcases l4 k hk with h5 | h5
    · exact .inl (h.pn k h5)
    · exact .inr (Nat.le_trans x3.size h5)
  · exact ⟨by have := H3.plt mb h.pm; omega, .inl h.pm⟩
  · rcases List.mem_append.1 hx with hx | hx
    · exact ⟨by have := H3.plt _ (h.pk x hx); omega, .inl (h.pk x hx)⟩
    · obtain rfl := List.mem_singleton.1 hx
      exact ⟨by have := z.lt; show g < _; omega, .inr hg⟩
  · refine (Kept.of_below x3).trans (kk.mono (fun k hk => ?_))
    rcases hk with hk | hk | hk
    · exact h.pn k hk
    · rw [hk]; exact h.pa
    · rw [hk]; exact h.pm
end
end Go.Proofs.Ytaafeflbanoncaa
