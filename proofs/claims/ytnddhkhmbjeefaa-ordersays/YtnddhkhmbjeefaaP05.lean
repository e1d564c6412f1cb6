/-
  The program's Make by its contract. Condition: lists no longer than a process can hold.
-/
import Derived.Test.YtnddhkhmbjeefaaP04
import Derived.Deep.AppendLies
import Derived.StringKeys
namespace Go.Proofs.Ytnddhkhmbjeefaa
open Go.RowKit Go.Lib Go.Maps

theorem Try.info47 : (Try.prog.info? 86).map (fun i => (i.zero, i.size, i.bytes)) = some (some (.agg #[.int .i64 0, .slice none 0 0]), 2, 32) := by kernel_rfl
theorem block_setCell {w : World} {b : Nat} {cs : Array Value} {t : TypeId} {fr : Nat × Nat} (h : w.heap[b]? = some (.cells cs t fr)) (j : Nat) (u : Value) : (w.setCell ⟨b, j, none⟩ u).heap[b]? = some (.cells (cs.set! j u) t fr) := by
  have hlt := lt_of_block h
  have h' : w.heap[b] = .cells cs t fr := by simpa [Array.getElem?_eq_getElem hlt] using h
  show (w.heap.modify b _)[b]? = _
  rw [Array.getElem?_eq_getElem (by simpa using hlt), Array.getElem_modify_self, h']
  rfl
theorem ZBk.ne {w : World} {b b' : Nat} {L : List Int} {cs : Array Value} {T : TypeId} {f : Nat × Nat} (h : ZBk w b L) (h' : w.heap[b']? = some (.cells cs T f)) (hT : T ≠ 3) : b ≠ b' := fun e => by
  obtain ⟨cs', h1, _⟩ := h
  subst e
  rw [h1] at h'
  simp at h'
  exact hT h'.2.1.symm
theorem ZBk.ne_map {w : World} {b b' : Nat} {L : List Int} {es : _} {cl : _} (h : ZBk w b L) (h' : w.heap[b']? = some (.map es cl)) : b ≠ b' := fun e => by
  obtain ⟨cs', h1, _⟩ := h
  subst e
  rw [h1] at h'
  cases h'
theorem keyL_is (lv : Int) (A : List Int) : (⟨(keyB lv A).toArray⟩ : ByteArray).data.toList = keyB lv A := by simp
theorem keyOf_node (lv : Int) (A : List Int) (h : A.length ≤ 256) : keyOf Try.prog 9 (.string ⟨(keyB lv A).toArray⟩) = some (keyL (lv, A)) := by
  have := WideMaps.keyOf_string_mk (P := Try.prog) (k := 9) Try.underlying9 (s := ⟨(keyB lv A).toArray⟩) (by
    have := keyB_length lv A
    simp only [ByteArray.size, List.size_toArray]
    unfold maxLen; omega)
  rw [this]
  simp [keyL]
theorem keyL_key (x : Nd) : WideAt.IsKeyLit (keyL x) := by unfold keyL; trivial
/-- What a map says of a key that it has. -/
theorem MpAt.hit {D : DataW Unit} {A : List Lit} (h : ∀ i (h : i < A.length), D.atKey A[i] (.lit (.int .i64 0)) = .lit (.int .i64 ((i : Int) + 2))) {kl : Lit} {c : Int} (hc : D.atKey kl (.lit (.int .i64 0)) = .lit (.int .i64 c)) (hm : kl ∈ A) : ∃ i, ∃ h : i < A.length, A[i] = kl ∧ c = (i : Int) + 2 := by
  obtain ⟨i, hi, e⟩ := List.mem_iff_getElem.1 hm
  refine ⟨i, hi, e, ?_⟩
  have := h i hi
  rw [e, hc] at this
  injection this with this
  injection this with _ this
theorem MpAt.put {w' : World} {b m : Nat} {A : List Lit} {kl : Lit} {D : DataW Unit} (hk : WideAt.IsKeyLit kl) (hn : kl ∉ A) (hm : IsMap D) (hh : ∀ kl, Maps.has D kl = true ↔ kl ∈ A ∨ kl ∈ ([] : List Lit)) (ha : ∀ i (h : i < A.length), D.atKey A[i] (.lit (.int .i64 0)) = .lit (.int .i64 ((i : Int) + 2)))
    (h1 : w'.ownsMap Try.prog 9 (plainElem Try.prog 3) b (m + 1) (D.put kl (.lit (.int .i64 ((A.length : Int) + 2))))) : MpAt w' b (m + 1) (A ++ [kl]) [] := by
  refine ⟨_, h1, fun x => ?_, fun i hi => ?_⟩
  · by_cases hx : x = kl
    · subst hx
      rw [Maps.has_put_same hm hk]
      simp
    · rw [Maps.has_put_other hx, hh x]
      simp [hx]
  · by_cases hi2 : i < A.length
    · rw [List.getElem_append_left hi2, Maps.atKey_put_other (fun e => hn (by rw [← e]; exact List.getElem_mem hi2))]
      exact ha i hi2
    · have : i = A.length := by rw [List.length_append, List.length_singleton] at hi; omega
      subst this
      rw [List.getElem_append_right (Nat.le_refl _)]
      simp only [Nat.sub_self, List.getElem_cons_zero]
      exact Maps.atKey_put_same hm hk _ _
theorem own_ne_map {w : World} {b m : Nat} {A B : List Lit} {base size n : Nat} {e : TypeId} {v : Value} {xs : List Value} (h : MpAt w b m A B) (ho : w.ownsRow base e size v n xs) : ¬ v.ownBlock = some b := fun hf => by
  obtain ⟨es, cl, h1⟩ := h.blk
  obtain ⟨cs, h2⟩ := own_ty ho b hf
  rw [h1] at h2
  cases h2
section
variable {w : World} {a : Nat} {S : List Int} {M : Int} {R : List ND} {N : List Nd} {m : Nat} {P : Nat → Prop} {sb sc mb : Nat} {nv : Value}
/-- A node more. -/
theorem CAx.add (h : CAx w a S M R m P sb sc nv mb) {w3 w4 w6 : World} (x3 : Below w.heap.size w w3) {lv : Int} {A : List Int} {g c : Nat} (z : ZBk w3 g A) (hg : w.heap.size ≤ g)
    (h1 : May S (R.map ND.nd) lv A) (h2 : ¬ One A) (h3 : (lv, A) ∉ R.map ND.nd) (hf : ((R.map ND.nd).length : Int) < M) {nv' : Value} (h4 : w4.ownsRow 0 86 2 nv' (R.length + 1) (ndC R ++ [.int .i64 lv, .slice (some ⟨g, 0, none⟩) A.length c])) (g4 : w3.grownBy w4 nv.ownBlock)
    (l4 : ∀ k, nv'.ownBlock = some k → nv.ownBlock = some k ∨ w3.heap.size ≤ k) (h6 : MpAt w6 mb (m + 1) ((R.map fun x => keyL x.nd) ++ [keyL (lv, A)]) []) (t6 : (w4.setCell ⟨a, 2, none⟩ nv').mapTurned w6 mb) :
    ∃ P', CA w6 a S M (R.map ND.nd ++ [(lv, A)]) (m + 1) P' ∧ Kept P w w6 ∧ ∀ k, P' k → P k ∨ w.heap.size ≤ k := by
  have H3 := h.below x3
  have k34 : Kept (fun k => nv.ownBlock = some k) w3 w4 := kept_of_grown g4
  have k45 : Kept (fun k => k = a) w4 (w4.setCell ⟨a, 2, none⟩ nv') := Kept.setCell (F := fun k => k = a) (p := ⟨a, 2, none⟩) (Kept.refl _ _) rfl _
  have k56 : Kept (fun k => k = mb) (w4.setCell ⟨a, 2, none⟩ nv') w6 := (kept_of_grown t6.grown).mono (fun b hb => by injection hb with hb; exact hb.symm)
  have kk : Kept (fun k => nv.ownBlock = some k ∨ k = a ∨ k = mb) w3 w6 := ((k34.mono (fun _ h => .inl h)).trans (k45.mono (fun _ h => .inr (.inl h)))).trans (k56.mono (fun _ h => .inr (.inr h)))
  obtain ⟨es, cl, hmb⟩ := H3.map.blk
  have zk : ∀ {b : Nat} {L : List Int}, ZBk w3 b L → ZBk w6 b L := fun hz => hz.kept kk (fun hF => by
    rcases hF with hF | hF | hF
    · obtain ⟨cs, h5⟩ := own_ty H3.row _ hF
      exact hz.ne h5 (by decide) rfl
    · exact hz.ne H3.blk (by decide) hF
    · exact hz.ne_map hmb hF)
  have ha4 : ¬ nv.ownBlock = some a := fun hF => by
    obtain ⟨cs, h5⟩ := own_ty H3.row _ hF
    rw [H3.blk] at h5
    simp at h5
  have hb4 := (k34.block a (lt_of_block H3.blk) ha4).trans H3.blk
  have ham : a ≠ mb := fun e => by subst e; rw [H3.blk] at hmb; cases hmb
  have hb5 : (w4.setCell ⟨a, 2, none⟩ nv').heap[a]? = some (.cells #[.slice (some ⟨sb, 0, none⟩) S.length sc, .int .i64 M, nv', .map (some mb)] 83 (0, 0)) := by
    have := block_setCell hb4 2 nv'
    simpa using this
  have hb6 := (k56.block a (lt_of_block hb5) ham).trans hb5
  have row6 : w6.ownsRow 0 86 2 nv' (R.length + 1) (ndC (R ++ [⟨lv, A, g, c⟩])) := by
    rw [ndC_append]
    refine own_kept (own_kept h4 k45 (fun k hk e => ?_)) k56 (fun k hk e => ?_)
    · subst e
      obtain ⟨cs, h5⟩ := own_ty h4 _ hk
      rw [hb4] at h5
      simp at h5
    · subst e
      rcases l4 _ hk with h5 | h5
      · exact own_ne_map H3.map H3.row h5
      · have := H3.map.lt
        omega
  have hsz := kk.size
  refine ⟨fun k => k < w6.heap.size ∧ (P k ∨ w.heap.size ≤ k), ⟨R ++ [⟨lv, A, g, c⟩], sb, sc, nv', mb, ⟨hb6, zk H3.sz, by rw [List.length_append]; exact row6, fun x hx => ?_, by rw [List.map_append]; exact h6, ?_, ?_, fun k hk => ?_, ?_, fun x hx => ?_, fun k hk => hk.1, by rw [List.map_append]; exact h.ok.add h1 h2 h3 hf⟩, by rw [List.map_append]; rfl⟩, ?_, fun k hk => hk.2⟩
  · rcases List.mem_append.1 hx with hx | hx
    · exact zk (H3.kid x hx)
    · obtain rfl := List.mem_singleton.1 hx
      exact zk z
  · exact ⟨by have := H3.plt a h.pa; omega, .inl h.pa⟩
  · exact ⟨by have := H3.plt sb h.ps; omega, .inl h.ps⟩
  · refine ⟨(World.ownsRow.lt row6 k hk).2, ?_⟩
    rcases l4 k hk with h5 | h5
    · exact .inl (h.pn k h5)
    · exact .inr (Nat.le_trans x3.size h5)
  · exact ⟨by have := H3.plt mb h.pm; omega, .inl h.pm⟩
  · rcases List.mem_append.1 hx with hx | hx
    · exact ⟨by have := H3.plt _ (h.pk x hx); omega, .inl (h.pk x hx)⟩
    · obtain rfl := List.mem_singleton.1 hx
      exact ⟨by have := z.lt; show g < _; omega, .inr hg⟩
  · refine (Kept.of_below x3).trans (kk.mono (fun k hk => ?_))
    rcases hk with hk | hk | hk
    · exact h.pn k hk
    · rw [hk]; exact h.pa
    · rw [hk]; exact h.pm
end
end Go.Proofs.Ytnddhkhmbjeefaa
/-
  The program's Make by its contract: the walk. Condition: lists no longer than a process can hold.
-/
namespace Go.Proofs.Ytnddhkhmbjeefaa
open Go.RowKit Go.Lib Go.Maps

/-- What Make leaves. -/
def MkL (S : List Int) (M : Int) (N : List Nd) (lv : Int) (A : List Int) (w : World) (e : Ending) (w' : World) (L : List Nd → (Nat → Prop) → World → Prop) (P : Nat → Prop) : Prop :=
  ∃ f er N', e = .returned (.tuple #[.int .i64 f, .int .i64 er]) ∧ MkP S M N lv A f er N' ∧ ∃ P', L N' P' w' ∧ Kept P w w' ∧ (∀ k, P' k → P k ∨ w.heap.size ≤ k) ∧ (N' = N → Below w.heap.size w w')
theorem MkL.stay {S : List Int} {M : Int} {N : List Nd} {lv : Int} {A : List Int} {w w' : World} {f er : Int} {L : List Nd → (Nat → Prop) → World → Prop} {P : Nat → Prop} (h : MkP S M N lv A f er N) (hl : L N P w') (x : Below w.heap.size w w') : MkL S M N lv A w (.returned (.tuple #[.int .i64 f, .int .i64 er])) w' L P :=
  ⟨f, er, N, rfl, h, P, hl, Kept.of_below x, fun _ h => .inl h, fun _ => x⟩
section
variable {w : World} {a : Nat} {S : List Int} {M : Int} {R : List ND} {N : List Nd} {m : Nat} {P : Nat → Prop} {sb sc mb : Nat} {nv : Value}
theorem CAx.ca (h : CAx w a S M R m P sb sc nv mb) : CA w a S M (R.map ND.nd) m P := ⟨R, sb, sc, nv, mb, h, rfl⟩
theorem omap {w' : World} {D : DataW Unit} {b n : Nat} (h : w.ownsMap Try.prog 9 (plainElem Try.prog 3) b n D) (e : w'.heap[b]? = w.heap[b]?) : w'.ownsMap Try.prog 9 (plainElem Try.prog 3) b n D := by
  obtain ⟨es, cl, g1, g2⟩ := h
  exact ⟨es, cl, e.trans g1, g2⟩
theorem CAx.grown (h : CAx w a S M R m P sb sc nv mb) {w' : World} (g : w.grownBy w' nv.ownBlock) : w'.heap[a]? = some (.cells #[.slice (some ⟨sb, 0, none⟩) S.length sc, .int .i64 M, nv, .map (some mb)] 83 (0, 0)) ∧ w'.heap[mb]? = w.heap[mb]? := by
  refine ⟨((kept_of_grown g).block a (lt_of_block h.blk) (fun hF => ?_)).trans h.blk, (kept_of_grown g).block mb h.map.lt (fun hF => own_ne_map h.map h.row hF)⟩
  obtain ⟨cs, h5⟩ := own_ty h.row _ hF
  rw [h.blk] at h5
  simp at h5
set_option maxRecDepth 100000 in
set_option maxHeartbeats 4000000 in
theorem makeC_any (lv : Int) (ao : Option Addr) (cap : Nat) (A : List Int) (hl : A.length ≤ 140737488351232) (hz : ZAt w ao A) (h : CAx w a S M R m P sb sc nv mb) (hm : m ≤ 1152921504606846976) :
    Calls Try.prog 22 #[.pointer (some ⟨a, 0, none⟩), .int .i64 lv, .slice ao A.length cap] w fun e w' => MkL S M (R.map ND.nd) lv A w e w' (fun N' P' V => CA V a S M N' (m + 1) P') P := by
  have HMS := hide (mayStand_any lv ao cap A hl hz h)
  have HH := hide h
  have HZ := hide hz
  by_cases hmay : May S (R.map ND.nd) lv A
  · have HM := hide hmay
    have hfew := h.few
    obtain ⟨⟨hl0, hl1⟩, hks, hkl, hk1⟩ := hmay.rng h.ok (by rw [List.length_map]; exact hfew)
    have HKS := hide hks
    have HAS : Hid (∀ W, Below w.heap.size w W → Calls Try.prog 48 #[.slice ao A.length cap] W fun e w' => e = .returned (.bool (decide (One A))) ∧ Below W.heap.size W w') := fun W x => allSame_any ao cap A W hl (hz.below x)
    have HKY : Hid (∀ W, Below w.heap.size w W → Calls Try.prog 49 #[.int .i64 lv, .slice ao A.length cap] W fun e w' => e = .returned (.string ⟨(keyB lv A).toArray⟩) ∧ Below W.heap.size W w') := fun W x => key_any lv ao cap A W hl0 hl1 hks hkl (hz.below x)
    have hg := hz.get (i := 0) (by omega)
    obtain ⟨bz, oz, rfl, hbz, hcz⟩ := hg
    rw [Nat.add_zero] at hcz
    have HCL := hide (fun W (x : Below w.heap.size w W) => clone_any ⟨bz, oz, none⟩ cap A W (by omega) (by omega) (hz.below x))
    clear hmay hz hks
    by_cases hone : One A
    · have HO := hide hone
      rw [decide_eq_true hone] at HAS
      clear hone h HKY HCL
      have hk1' : (0 : Int) < (A.length : Int) := by omega
      generalize hA0 : A.getD 0 0 = x0 at *
      have HA0 := hide hA0
      clear hA0
      go_enter Try.func22, Try.ntmps22
      go_upto_region 4 with (first
        | (go_at_call 47; refine HMS.out.mono ?_; rintro e w1 ⟨⟨b, rfl, hb⟩, x1⟩; have hbt := hb.2 HM.out; subst hbt; have X1 := hide x1; clear hb x1)
        | (go_at_call 48; refine (HAS.out _ X1.out).mono ?_; rintro e w2 ⟨rfl, x2⟩; have X2 := hide (bt X1.out x2 (Nat.le_refl _)); clear x2))
      have q0 := (X2.out.cell (p := ⟨bz, oz, none⟩) hbz).trans hcz
      go_wp2
      go_ret2
      exact MkL.stay (.inr (.inl ⟨HM.out, HO.out, HA0.out.symm, rfl, rfl⟩)) ((HH.out.below X2.out).ca.mono (Nat.le_succ _)) X2.out
    · have HO := hide hone
      rw [decide_eq_false hone] at HAS
      clear hone h hcz
      go_enter Try.func22, Try.ntmps22
      go_upto_region 6 with (first
        | (go_at_call 47; refine HMS.out.mono ?_; rintro e w1 ⟨⟨b, rfl, hb⟩, x1⟩; have hbt := hb.2 HM.out; subst hbt; have X1 := hide x1; clear hb x1)
        | (go_at_call 48; refine (HAS.out _ X1.out).mono ?_; rintro e w2 ⟨rfl, x2⟩; have X2 := hide (bt X1.out x2 (Nat.le_refl _)); clear x2)
        | (go_at_call 49; refine (HKY.out _ X2.out).mono ?_; rintro e w3 ⟨rfl, x3⟩; have X3 := hide (bt X2.out x3 (Nat.le_refl _)); clear x3))
      clear HMS HAS HKY X1 X2
      have H3 := hide (HH.out.below X3.out)
      obtain ⟨D, hown, hh, ha⟩ := H3.out.map
      have HOWN := hide hown
      have HHS := hide hh
      have HAT := hide ha
      have HK1 := hide (keyOf_node lv A hkl)
      have hz0 : ∀ W, (zeroValue 3).run Try.prog W = .ok (.int .i64 0) W := fun W => Try.zeroValue3 W
      obtain ⟨c0, c1, c2, c3⟩ := H3.out.cells
      clear hown hh ha
      by_cases hin : keyL (lv, A) ∈ R.map fun x => keyL x.nd
      · have hhas : Maps.has D (keyL (lv, A)) = true := (HHS.out _).2 (.inl hin)
        have HHIT : Hid (∀ c : Int, D.atKey (keyL (lv, A)) (.lit (.int .i64 0)) = .lit (.int .i64 c) → MkP S M (R.map ND.nd) lv A c 0 (R.map ND.nd)) := fun c hc => by
          obtain ⟨i, hi, e, rfl⟩ := MpAt.hit HAT.out hc hin
          rw [List.length_map] at hi
          rw [List.getElem_map] at e
          unfold keyL at e
          injection e with e
          have hmi := H3.out.ok.may (i := i) (by rw [List.length_map]; exact hi)
          rw [List.getElem_map] at hmi
          have e2 := H3.out.ok.key_inj hmi HM.out e
          refine .inr (.inr (.inl ⟨HM.out, HO.out, ⟨i, ?_, rfl⟩, rfl, rfl⟩))
          rw [List.getElem?_eq_getElem (by rw [List.length_map]; exact hi), List.getElem_map]
          exact congrArg some e2
        go_wp2_with (at_lookup; refine wpList_lookup_own_ok_int _ rfl (.tmp 29) (.tmp 30) 81 rfl 9 3 .i64 (string_keyed Try.underlying9) Try.underlying81 Try.underlying3 (hz0 _) mb m D rfl HOWN.out _ _ rfl HK1.out ?_; intro c hat _; rw [hhas]; have HMK := hide (HHIT.out c hat); clear hat)
        go_ret2
        exact MkL.stay HMK.out (H3.out.ca.mono (Nat.le_succ _)) X3.out
      · have hhas : Maps.has D (keyL (lv, A)) = false := by
          cases e : Maps.has D (keyL (lv, A))
          · rfl
          · rcases (HHS.out _).1 e with h | h
            · exact absurd h hin
            · cases h
        have HNIN : Hid ((lv, A) ∉ R.map ND.nd) := fun h => hin (by
          obtain ⟨x, hx, e⟩ := List.mem_map.1 h
          exact List.mem_map.2 ⟨x, hx, by rw [e]⟩)
        obtain ⟨na, nc, hnv, hnp⟩ := H3.out.shape
        subst hnv
        have HIN := hide hin
        clear hin
        go_upto_region 9 with (at_lookup; refine wpList_lookup_own_ok_int _ rfl (.tmp 29) (.tmp 30) 81 rfl 9 3 .i64 (string_keyed Try.underlying9) Try.underlying81 Try.underlying3 (hz0 _) mb m D rfl HOWN.out _ _ rfl HK1.out ?_; intro c hat _; rw [hhas]; clear hat)
        by_cases hfull : M ≤ (R.length : Int)
        · have HMK : Hid (MkP S M (R.map ND.nd) lv A 0 2 (R.map ND.nd)) := .inr (.inr (.inr (.inl ⟨HM.out, HO.out, HNIN.out, by rw [List.length_map]; exact hfull, rfl, rfl, rfl⟩)))
          go_quiet (fail)
          go_wp2
          go_ret2
          exact MkL.stay HMK.out ((H3.out.below (below_drewN (Below.refl _ _) _)).ca.mono (Nat.le_succ _)) (below_drewN X3.out _)
        · have hfull' : (R.length : Int) < M := by omega
          have HFU : Hid (((R.map ND.nd).length : Int) < M) := by unfold Hid; rw [List.length_map]; exact hfull'
          have e9 : IntKind.i64.wrap (2 + (R.length : Int)) = (R.length : Int) + 2 := by simp [IntKind.wrap, IntKind.bits, IntKind.signed]; omega
          obtain ⟨i47, hi47, hz470, hz471, hz472⟩ := info_parts Try.info47
          go_quiet (fail)
          go_upto_region 12 with fail
          have Y4 := hide (below_drewN (Below.refl w3.heap.size w3) nq)
          generalize w3.drewN nq = w4 at *
          have X4 := hide (bt X3.out Y4.out (Nat.le_refl _))
          have H4 := hide (H3.out.below Y4.out)
          have HO4 := hide (omap HOWN.out (Y4.out.block mb HOWN.out.lt))
          clear c0 c1 c2 c3 HOWN H3 X3 Y4
          have X5 := hide (bt X4.out (Below.refl w4.heap.size w4).drew (Nat.le_refl _))
          have H5 := hide (H4.out.below (Below.refl w4.heap.size w4).drew)
          have HO5 := hide (omap HO4.out ((Below.refl w4.heap.size w4).drew.block mb HO4.out.lt))
          have HS0 : Hid ((fun V : World => V.cell? ⟨a, 2, none⟩ = some (.slice na R.length nc)) w4.drew) := H5.out.cells.2.2.1
          refine wp_unt (S := fun V => V.cell? ⟨a, 2, none⟩ = some (.slice na R.length nc)) 13 (by kernel_rfl) ?_
          generalize w4.drew = wd at *
          refine UntH.take (i := 0) (some 52) rfl rfl (by kernel_rfl) (by kernel_rfl) (by kernel_rfl) (by kernel_rfl) (fun _ _ _ _ h => h) (by rfl) HS0.out ?_
          apply Exists.intro
          refine ⟨fun w' hw' => ?_, ?_⟩
          · have q0 := hw'
            go_simp
            first | done | rfl
          try simp only [Act.put, List.setIfInBounds_toArray, List.set_cons_zero, List.set_cons_succ]
          refine UntH.take (i := 1) (some 53) rfl rfl (by kernel_rfl) (by kernel_rfl) (by kernel_rfl) (by kernel_rfl) (fun _ _ _ _ h => h) (by rfl) HS0.out ?_
          apply Exists.intro
          refine ⟨fun w' hw' => ?_, ?_⟩
          · have q0 := hw'
            go_simp
            first | done | rfl
          try simp only [Act.put, List.setIfInBounds_toArray, List.set_cons_zero, List.set_cons_succ]
          refine UntH.take (i := 2) (some 54) rfl rfl (by kernel_rfl) (by kernel_rfl) (by kernel_rfl) (by kernel_rfl) (fun _ _ _ _ h => h) (by rfl) HS0.out ?_
          apply Exists.intro
          refine ⟨fun w' hw' => ?_, ?_⟩
          · have q0 := hw'
            go_simp
            first | done | rfl
          try simp only [Act.put, List.setIfInBounds_toArray, List.set_cons_zero, List.set_cons_succ]
          refine UntH.take (i := 3) (some 55) rfl rfl (by kernel_rfl) (by kernel_rfl) (by kernel_rfl) (by kernel_rfl) (fun _ _ _ _ h => h) (by rfl) HS0.out ?_
          apply Exists.intro
          refine ⟨fun w' hw' => ?_, ?_⟩
          · have q0 := hw'
            go_simp
            first | done | rfl
          try simp only [Act.put, List.setIfInBounds_toArray, List.set_cons_zero, List.set_cons_succ]
          refine UntH.take (i := 4) (some 56) rfl rfl (by kernel_rfl) (by kernel_rfl) (by kernel_rfl) (by kernel_rfl) (fun _ _ _ _ h => h) (by rfl) HS0.out ?_
          apply Exists.intro
          refine ⟨fun w' hw' => ?_, ?_⟩
          · have q0 := hw'
            go_simp
            first | done | rfl
          try simp only [Act.put, List.setIfInBounds_toArray, List.set_cons_zero, List.set_cons_succ]
          refine UntH.take (i := 5) (some 57) rfl rfl (by kernel_rfl) (by kernel_rfl) (by kernel_rfl) (by kernel_rfl) (fun _ _ _ _ h => h) (by rfl) HS0.out ?_
          apply Exists.intro
          refine ⟨fun w' hw' => ?_, ?_⟩
          · have q0 := hw'
            go_simp
            first | done | rfl
          try simp only [Act.put, List.setIfInBounds_toArray, List.set_cons_zero, List.set_cons_succ]
          refine UntH.take (i := 6) (some 58) rfl rfl (by kernel_rfl) (by kernel_rfl) (by kernel_rfl) (by kernel_rfl) (fun _ _ _ _ h => h) (by rfl) HS0.out ?_
          apply Exists.intro
          refine ⟨fun w' hw' => ?_, ?_⟩
          · have q0 := hw'
            go_simp
            first | done | rfl
          try simp only [Act.put, List.setIfInBounds_toArray, List.set_cons_zero, List.set_cons_succ]
          refine UntH.step (i := 7) (by kernel_rfl) rfl (fun K hK => ?_)
          go_simp
          refine (HCL.out wd X5.out).mono ?_
          rintro e w6 ⟨⟨g6, cg6, rfl, o6, z6, l6⟩, x6⟩
          have Z6 := hide z6
          have L6 := hide (Nat.le_trans X5.out.size l6)
          have X6 := hide (bt X5.out x6 (Nat.le_refl _))
          have H6 := hide (H5.out.below x6)
          have HO6 := hide (omap HO5.out (x6.block mb HO5.out.lt))
          have HS6 := hide H6.out.cells.2.2.1
          refine hK _ _ HS6.out ?_
          clear hK K o6 z6 l6 x6 HCL
          try simp only [Act.put, List.setIfInBounds_toArray, List.set_cons_zero, List.set_cons_succ]
          refine UntH.take (i := 8) (some 60) rfl rfl (by kernel_rfl) (by kernel_rfl) (by kernel_rfl) (by kernel_rfl) (fun _ _ _ _ h => h) (by rfl) HS6.out ?_
          apply Exists.intro
          refine ⟨fun w' hw' => ?_, ?_⟩
          · have q0 := hw'
            go_simp
            first | done | rfl
          try simp only [Act.put, List.setIfInBounds_toArray, List.set_cons_zero, List.set_cons_succ]
          have y7 : Below w6.heap.size w6 (w6.alloc (.cells #[.int .i64 lv, .slice (some ⟨g6, 0, none⟩) A.length cg6] 86)) := al (Below.refl _ _) _
          have H7 := hide (H6.out.below y7)
          have Z7 := hide (Z6.out.below y7)
          have HO7 := hide (omap HO6.out (y7.block mb HO6.out.lt))
          have X7 := hide (bt X6.out y7 (Nat.le_refl _))
          have HS7 := hide H7.out.cells.2.2.1
          have HNW := hide (two_new w6 (.int .i64 lv) (.slice (some ⟨g6, 0, none⟩) A.length cg6) 86)
          have E7 : Hid ((w6.alloc (.cells #[.int .i64 lv, .slice (some ⟨g6, 0, none⟩) A.length cg6] 86)).heap.size = w6.heap.size + 1) := by unfold Hid; simp
          refine UntH.step (i := 9) (by kernel_rfl) rfl (fun K hK => ?_)
          go_simp
          refine hK _ _ HS7.out ?_
          clear hK K y7
          generalize w6.alloc (.cells #[.int .i64 lv, .slice (some ⟨g6, 0, none⟩) A.length cg6] 86) = w7 at *
          refine UntH.step (i := 10) (by kernel_rfl) rfl (fun K hK => ?_)
          refine step_append_lies _ (by rfl) (.tmp 56) (.tmp 61) 63 (by rfl) 0 86 i47 (.agg #[.int .i64 0, .slice none 0 0]) 2 32 Try.underlying63 hi47 hz470 hz471 hz472 rfl (by decide) _ R.length (ndC R) (by rfl) H7.out.row ⟨w6.heap.size, 0, none⟩ 1 1 [.int .i64 lv, .slice (some ⟨g6, 0, none⟩) A.length cg6] (by rfl) (by rfl) HNW.out (by simp [Value.oneCell']) (by decide) (by unfold maxLen; omega) (by omega) (Nat.zero_le _) _ rfl ?_
          intro g8 cap8 w8 h1 h2 h3 h4
          have HB8 := hide (H7.out.grown h2)
          have HO8 := hide h1
          have HG8 := hide h2
          have HL8 : Hid (∀ k, (Value.slice (some ⟨g8, 0, none⟩) (R.length + 1) cap8).ownBlock = some k → (Value.slice na R.length nc).ownBlock = some k ∨ w7.heap.size ≤ k) := fun k hk => by
            have e : g8 = k := Option.some.inj hk
            subst e
            rcases h3 with h3 | h3
            · exact .inl h3
            · exact .inr (by omega)
          have HS8 : Hid (w8.cell? ⟨a, 2, none⟩ = some (.slice na R.length nc)) := by unfold Hid; rw [cell_of_row w8 a _ _ _ _ HB8.out.1]; rfl
          have f8 := frozen_of_row w8 a 2 _ _ HB8.out.1
          refine hK _ _ HS8.out ?_
          clear hK K h1 h2 h3 h4
          refine UntH.take (i := 11) (some 63) rfl rfl (by kernel_rfl) (by kernel_rfl) (by kernel_rfl) (by kernel_rfl) (fun _ _ _ _ h => h) (by rfl) HS8.out ?_
          apply Exists.intro
          refine ⟨fun w' hw' => ?_, ?_⟩
          · have q0 := hw'
            go_simp
            first | done | rfl
          refine UntH.take (i := 12) (some 64) rfl rfl (by kernel_rfl) (by kernel_rfl) (by kernel_rfl) (by kernel_rfl) (fun _ _ _ _ h => h) (by rfl) HS8.out ?_
          apply Exists.intro
          refine ⟨fun w' hw' => ?_, ?_⟩
          · have q0 := hw'
            go_simp
            first | done | rfl
          have q8 := HS8.out
          refine UntH.last (by kernel_rfl) rfl (by kernel_rfl) (by kernel_rfl) (fun K hK => ?_)
          go_simp
          refine hK _ _ ?_
          clear hK K q8 f8 HS8 HS7 HS6 HS0
          have B9 : Hid ((w8.setCell ⟨a, 2, none⟩ (.slice (some ⟨g8, 0, none⟩) (R.length + 1) cap8)).heap[a]? = some (.cells #[.slice (some ⟨sb, 0, none⟩) S.length sc, .int .i64 M, .slice (some ⟨g8, 0, none⟩) (R.length + 1) cap8, .map (some mb)] 83 (0, 0))) := by
            have := block_setCell HB8.out.1 2 (.slice (some ⟨g8, 0, none⟩) (R.length + 1) cap8)
            simpa [Hid] using this
          have HM9 : Hid ((w8.setCell ⟨a, 2, none⟩ (.slice (some ⟨g8, 0, none⟩) (R.length + 1) cap8)).ownsMap Try.prog 9 (plainElem Try.prog 3) mb m D) := omap HO7.out ((Below.heap_setCell _ _ _ _ (fun e => by
            obtain ⟨es, cl, g1⟩ := H7.out.map.blk
            rw [e, H7.out.blk] at g1
            cases g1)).trans HB8.out.2)
          have HAD : Hid (∀ w10, MpAt w10 mb (m + 1) ((R.map fun x => keyL x.nd) ++ [keyL (lv, A)]) [] → (w8.setCell ⟨a, 2, none⟩ (.slice (some ⟨g8, 0, none⟩) (R.length + 1) cap8)).mapTurned w10 mb → _) := fun w10 h6 t6 => HH.out.add (w6 := w10) X7.out Z7.out L6.out HM.out HO.out HNIN.out HFU.out HO8.out HG8.out HL8.out h6 t6
          have HPU := hide (fun (w10 : World) (h1 : w10.ownsMap Try.prog 9 (plainElem Try.prog 3) mb (m + 1) (D.put (keyL (lv, A)) (.lit (.int .i64 (((R.map fun x => keyL x.nd).length : Int) + 2))))) => MpAt.put (keyL_key (lv, A)) HIN.out HM9.out.isMap HHS.out HAT.out h1)
          rw [List.length_map] at HPU
          have c3 : (w8.setCell ⟨a, 2, none⟩ (.slice (some ⟨g8, 0, none⟩) (R.length + 1) cap8)).cell? ⟨a, 3, none⟩ = some (.map (some mb)) := by rw [cell_of_row _ a _ _ _ _ B9.out]; rfl
          clear HB8 HO8 HG8 HL8 HO7 HO6 HO5 HO4 H7 H6 H5 H4 Z7 Z6 X7 X6 X5 X4 E7 HNW L6
          generalize w8.setCell ⟨a, 2, none⟩ (.slice (some ⟨g8, 0, none⟩) (R.length + 1) cap8) = w9 at *
          go_wp2_with (at_mapUpdate; refine wpList_mapUpdate_in _ rfl (.tmp 68) (.tmp 69) (.tmp 70) 81 rfl 9 3 (string_keyed Try.underlying9) Try.underlying81 _ mb m D rfl HM9.out (by unfold maxLen; omega) _ _ _ rfl rfl HK1.out _ [] (plainElem_int Try.underlying3 (WalkArith.wf_i64 (by omega))) ?_; intro w10 t1 t2; have T1 := hide t1; have T2 := hide t2; clear t1 t2)
          go_ret2
          obtain ⟨P', p1, p2, p3⟩ := HAD.out w10 (HPU.out w10 T1.out) T2.out
          exact ⟨_, _, _, rfl, .inr (.inr (.inr (.inr ⟨HM.out, HO.out, HNIN.out, HFU.out, by rw [List.length_map], rfl, rfl⟩))), P', p1, p2, p3, fun e => by
            have := congrArg List.length e
            simp at this⟩
  · have HM := hide hmay
    clear hmay hz h
    go_enter Try.func22, Try.ntmps22
    go_wp2_with (go_at_call 47; refine HMS.out.mono ?_; rintro e w1 ⟨⟨b, rfl, hb⟩, x1⟩; have hbt : b = false := (by cases b with | false => rfl | true => exact absurd (hb.1 rfl) HM.out); subst hbt; have X1 := hide x1; clear hb x1)
    go_ret2
    exact MkL.stay (.inl ⟨HM.out, rfl, rfl, rfl⟩) ((HH.out.below X1.out).ca.mono (Nat.le_succ _)) X1.out
end
end Go.Proofs.Ytnddhkhmbjeefaa
