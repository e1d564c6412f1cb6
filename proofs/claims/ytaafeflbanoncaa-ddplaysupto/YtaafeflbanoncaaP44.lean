/-
  Nodes of some roots, in both arenas. No condition.
-/
import Derived.Test.YtaafeflbanoncaaP43
import Derived.Test.YtaafeflbanoncaaP06
namespace Go.Proofs.Ytaafeflbanoncaa
open Go.RowKit Go.Lib Go.Maps

/-- What Nodes leaves. -/
def NdsL (N : List Nd) (A : List Int) (w : World) (e : Ending) (w' : World) : Prop :=
  (((∀ f ∈ A, hasR N f) ∧ ∃ v, e = .returned (.tuple #[v, .int .i64 0]) ∧ w'.ownsRow w.heap.size 3 1 v (nodF N A).2.length (zC (nodF N A).2)) ∨ (¬ (∀ f ∈ A, hasR N f) ∧ e = .returned (.tuple #[.slice none 0 0, .int .i64 1]))) ∧ Below w.heap.size w w'
theorem fold_ok {S : List Int} {M : Int} {N : List Nd} (ok : Ok S M N) {A : List Int} (hA : ∀ f ∈ A, hasR N f) (i : Nat) : MetOk (N.length + 2) 0 ((A.take i).foldl (fun s f => thrF N (N.length + 2) f s) (List.replicate (N.length + 2) false, [])) := by
  have h0 : MetOk (N.length + 2) 0 (List.replicate (N.length + 2) false, ([] : List Int)) := ⟨List.length_replicate, by show 0 + 0 ≤ _; omega⟩
  have : ∀ (t : List Int) (s : MetO), (∀ f ∈ t, hasR N f) → MetOk (N.length + 2) 0 s → MetOk (N.length + 2) 0 (t.foldl (fun s f => thrF N (N.length + 2) f s) s) := by
    intro t
    induction t with
    | nil => intro s _ h; exact h
    | cons f t ih => intro s hf h; exact ih _ (fun y hy => hf y (by simp [hy])) (thr_ok ok _ f 0 s (hf f (by simp)) h)
  exact this _ _ (fun f hf => hA f (List.mem_of_mem_take hf)) h0
theorem nod_len {S : List Int} {M : Int} {N : List Nd} (ok : Ok S M N) {A : List Int} (hA : ∀ f ∈ A, hasR N f) : (nodF N A).2.length ≤ N.length + 2 := by
  have h := fold_ok ok hA A.length
  rw [List.take_length] at h
  have h1 := h.cnt
  have h2 := h.len
  have h3 := count_le (A.foldl (fun s f => thrF N (N.length + 2) f s) (List.replicate (N.length + 2) false, ([] : List Int))).1
  unfold nodF
  omega
section
variable {w : World} {a x m : Nat} {S : List Int} {M : Int} {N : List Nd} {P Q : Nat → Prop}
set_option maxRecDepth 100000 in
set_option maxHeartbeats 4000000 in
theorem nodesC_any {ao : Option Addr} {cap : Nat} {A : List Int} (h : CA w a S M N m P) (hz : ZAt w ao A) (hl : A.length ≤ 1000) :
    Calls Try.prog 34 #[.pointer (some ⟨a, 0, none⟩), .slice ao A.length cap] w fun e w' => NdsL N A w e w' := by
  have AT := hide (areThere_any ao cap A (by omega) hz h)
  by_cases hA : ∀ f ∈ A, hasR N f
  rotate_left
  · have HA := hide hA
    clear h hz hA
    go_enter Try.func34, Try.ntmps34
    go_wp2_with (go_at_call 59; refine AT.out.mono ?_; rintro e w1 ⟨⟨b, rfl, hb⟩, x1⟩; have hbt : b = false := Bool.eq_false_iff.2 (fun e => HA.out (hb.1 e)); subst hbt; have X1 := hide x1; clear hb x1)
    go_ret2
    exact ⟨.inr ⟨HA.out, rfl⟩, X1.out⟩
  have ok := h.ok
  have hfew : N.length ≤ 8192 := by have := ok.few; have := ok.m1; omega
  have HA := hide hA
  have HH := hide h
  have HZ := hide hz
  have HOK := hide ok
  have LEN := hide (fun W (y : Below w.heap.size w W) => (h.below y).len)
  have hwn : IntKind.i64.wrap (2 + (N.length : Int)) = ((N.length + 2 : Nat) : Int) := by simp [IntKind.wrap, IntKind.bits, IntKind.signed]; omega
  have hmk := make_bools (N.length + 2) ((N.length + 2 : Nat) : Int) rfl (by omega)
  obtain ⟨nn, hnn⟩ : ∃ nn, N.length + 2 = nn := ⟨_, rfl⟩
  rw [hnn] at hwn hmk
  clear h hz hA ok
  go_enter Try.func34, Try.ntmps34
  go_upto_region 4 with (first
    | (go_at_call 59; refine AT.out.mono ?_; rintro e w1 ⟨⟨b, rfl, hb⟩, x1⟩; have hbt : b = true := hb.2 HA.out; subst hbt; have X1 := hide x1; clear hb x1)
    | (go_at_call 20; refine (LEN.out _ X1.out).mono ?_; rintro e w2 ⟨rfl, hw1⟩; have hw2 := hw1.symm; clear hw1; subst hw2))
  clear AT LEN hmk hwn
  have y2 : Below w1.heap.size w1 (w1.alloc (.cells (bC (List.replicate nn false)).toArray 4)) := al (Below.refl _ _) _
  have r2 : RwB (w1.alloc (.cells (bC (List.replicate nn false)).toArray 4)) w1.heap.size (List.replicate nn false) := heap_alloc_new w1 _
  have s2 : (w1.alloc (.cells (bC (List.replicate nn false)).toArray 4)).heap.size = w1.heap.size + 1 := by simp
  have SB : Hid (w.heap.size ≤ w1.heap.size) := X1.out.size
  have Y2 := hide (bt X1.out y2 (Nat.le_refl _))
  have R2 := hide r2
  have S2 := hide s2
  clear y2 r2 s2
  generalize w1.alloc (.cells (bC (List.replicate nn false)).toArray 4) = w2 at *
  have y3 : Below w2.heap.size w2 (w2.alloc (.cells #[.pointer (some ⟨a, 0, none⟩), .slice (some ⟨w1.heap.size, 0, none⟩) nn nn, .slice none 0 0] 113)) := al (Below.refl _ _) _
  have T3 : Hid (TW w (w2.alloc (.cells #[.pointer (some ⟨a, 0, none⟩), .slice (some ⟨w1.heap.size, 0, none⟩) nn nn, .slice none 0 0] 113)) w2.heap.size w1.heap.size a nn (List.replicate nn false, []) (.slice none 0 0)) :=
    ⟨bt Y2.out y3 (Nat.le_refl _), heap_alloc_new w2 _, (y3.block _ (lt_of_block R2.out)).trans R2.out, World.ownsRow_nil _ _ _ _, Y2.out.size, SB.out⟩
  have hsz := S2.out
  clear y3 Y2 R2 S2
  rw [show w1.heap.size + 1 = w2.heap.size from hsz.symm]
  clear hsz
  generalize w2.alloc (.cells #[.pointer (some ⟨a, 0, none⟩), .slice (some ⟨w1.heap.size, 0, none⟩) nn nn, .slice none 0 0] 113) = w3 at *
  generalize w2.heap.size = wk at *
  generalize w1.heap.size = mb at *
  have TA : Hid (∀ (W : World) (s : MetO) (v : Value) (f : Int) (j : Nat), TW w W wk mb a nn s v → hasR N f → f.toNat ≤ nn → MetOk nn j s → Calls Try.prog 69 #[.pointer (some ⟨wk, 0, none⟩), .int .i64 f] W fun e w' => ThL w wk mb a nn (thrF N nn f s) v W e w') := by
    have := through_any (wk := wk) (mb := mb) HH.out nn
    rw [hnn] at this
    exact this
  have FO : Hid (∀ i, MetOk nn 0 ((A.take i).foldl (fun s f => thrF N nn f s) (List.replicate nn false, []))) := fun i => by
    have := fold_ok HOK.out HA.out i
    rw [hnn] at this
    exact this
  have NF : Hid (nodF N A = A.foldl (fun s f => thrF N nn f s) (List.replicate nn false, [])) := by unfold Hid nodF; rw [hnn]
  have HNN := hide hnn
  clear hnn
  go_wp2
  go_loopw [21] (fun x wr => ∃ i : Nat, i ≤ A.length ∧ x = .int .i64 i ∧ ∃ v, Hid (TW w wr wk mb a nn ((A.take i).foldl (fun s f => thrF N nn f s) (List.replicate nn false, [])) v)) (fun x _ => A.length - (RowKit.intOf x).toNat)
  case atStart => exact ⟨0, Nat.zero_le _, rfl, .slice none 0 0, T3⟩
  case round =>
    obtain ⟨i, hi, rfl, v, T4⟩ := hrel
    clear T3
    by_cases hlt : i < A.length
    · have hlt' : (i : Int) < (A.length : Int) := by omega
      obtain ⟨b1, o1, rfl, hb1, g1⟩ := (HZ.out.below T4.out.bel).get hlt
      have hf := HA.out _ (getD_mem hlt)
      have hke : A[i] = A.getD i 0 := by rw [List.getD_eq_getElem?_getD, List.getElem?_eq_getElem hlt]; rfl
      have HC := hide (TA.out wr _ v (A.getD i 0) 0 T4.out hf (by have h5 := hf.2; have h6 := HNN.out; omega) (FO.out i))
      have EQ : Hid ((A.take (i + 1)).foldl (fun s f => thrF N nn f s) (List.replicate nn false, []) = thrF N nn (A.getD i 0) ((A.take i).foldl (fun s f => thrF N nn f s) (List.replicate nn false, []))) := by
        unfold Hid
        rw [List.take_succ_eq_append_getElem hlt, List.foldl_append, hke]
        rfl
      rw [← EQ.out] at HC
      clear EQ hke hf hb1
      generalize A.getD i 0 = fv at *
      go_wp2_with (go_at_call 69; refine HC.out.mono ?_; rintro e w5 ⟨v5, rfl, t5, _, _⟩; have T5 := hide t5; clear t5)
      go_roundw
      case rel => exact ⟨i + 1, by omega, by go_num, v5, T5⟩
      case measure => simp [RowKit.intOf]; omega
    · have hlt' : ¬ (i : Int) < (A.length : Int) := by omega
      obtain rfl : i = A.length := by omega
      rw [List.take_length, ← NF.out] at T4
      obtain ⟨la, lc, hv, _⟩ := own_shape T4.out.own
      subst hv
      obtain ⟨c0, c1, c2⟩ := T4.out.cells
      have FIN : Hid (NdsL N A w (.returned (.tuple #[.slice la (nodF N A).2.length lc, .int .i64 0])) wr) := ⟨.inl ⟨HA.out, _, rfl, T4.out.own⟩, T4.out.bel⟩
      generalize (nodF N A).2.length = ln at *
      go_wp2
      go_ret2
      exact FIN.out
set_option maxRecDepth 100000 in
set_option maxHeartbeats 4000000 in
theorem nodesD_any {ao : Option Addr} {cap : Nat} {A : List Int} (h : RA w x S M N Q) (hz : ZAt w ao A) (hl : A.length ≤ 1000) :
    Calls Try.prog 35 #[.pointer (some ⟨x, 0, none⟩), .slice ao A.length cap] w fun e w' => NdsL N A w e w' := by
  have ok := h.ok
  have hfew : N.length ≤ 8192 := by have := ok.few; have := ok.m1; omega
  have HH := hide h
  have HZ := hide hz
  have HOK := hide ok
  have LEN := hide h.len
  have hwn : IntKind.i64.wrap ((N.length : Int) + 2) = ((N.length + 2 : Nat) : Int) := by simp [IntKind.wrap, IntKind.bits, IntKind.signed]; omega
  have hmk := make_bools (N.length + 2) ((N.length + 2 : Nat) : Int) rfl (by omega)
  obtain ⟨nn, hnn⟩ : ∃ nn, N.length + 2 = nn := ⟨_, rfl⟩
  rw [hnn] at hwn hmk
  have y2 : Below w.heap.size w (w.alloc (.cells (bC (List.replicate nn false)).toArray 4)) := al (Below.refl _ _) _
  have T3 : Hid (UW w (w.alloc (.cells (bC (List.replicate nn false)).toArray 4)) w.heap.size (List.replicate nn false, []) (.slice none 0 0)) := ⟨y2, heap_alloc_new w _, World.ownsRow_nil _ _ _ _, Nat.le_refl _⟩
  have OB : Hid (∃ mb, mb = w.heap.size) := ⟨_, rfl⟩
  clear h hz ok y2
  go_enter Try.func35, Try.ntmps35
  go_upto_region 2 with (go_at_call 10; refine LEN.out.mono ?_; rintro e w2 ⟨rfl, hw1⟩; have hw2 := hw1.symm; clear hw1; subst hw2)
  clear LEN hmk hwn
  generalize w.alloc (.cells (bC (List.replicate nn false)).toArray 4) = w3 at *
  obtain ⟨mb, hmb⟩ := OB.out
  rw [← hmb] at T3
  try rw [← hmb]
  clear hmb OB
  have TA : Hid (∀ (W : World) (s : MetO) (v : Value) (f : Int) (j : Nat), UW w W mb s v → hasR N f → f.toNat ≤ nn → MetOk nn j s → Calls Try.prog 70 #[.pointer (some ⟨x, 0, none⟩), .int .i64 f, .slice (some ⟨mb, 0, none⟩) nn nn, v] W fun e w' => UhL w mb (thrF N nn f s) v W e w') := by
    have := walk_any (mb := mb) HH.out nn
    rw [hnn] at this
    exact this
  have FO : Hid (∀ i, (∀ f ∈ A.take i, hasR N f) → MetOk nn 0 ((A.take i).foldl (fun s f => thrF N nn f s) (List.replicate nn false, []))) := fun i hi => by
    have := fold_ok HOK.out hi i
    rw [hnn, List.take_take, Nat.min_self] at this
    exact this
  have NF : Hid (nodF N A = A.foldl (fun s f => thrF N nn f s) (List.replicate nn false, [])) := by unfold Hid nodF; rw [hnn]
  have HNN := hide hnn
  clear hnn
  go_wp2
  go_loopw [7, 8] (fun v u wr => ∃ i : Nat, i ≤ A.length ∧ u = .int .i64 i ∧ Hid (∀ f ∈ A.take i, hasR N f) ∧ Hid (UW w wr mb ((A.take i).foldl (fun s f => thrF N nn f s) (List.replicate nn false, [])) v)) (fun _ u _ => A.length - (RowKit.intOf u).toNat)
  case atStart => exact ⟨0, Nat.zero_le _, rfl, hide (fun f hf => by simp at hf), T3⟩
  case round =>
    obtain ⟨i, hi, rfl, HT, T4⟩ := hrel
    clear T3
    obtain ⟨la4, lc4, hv4, _⟩ := own_shape T4.out.own
    subst hv4
    by_cases hlt : i < A.length
    · have hlt' : (i : Int) < (A.length : Int) := by omega
      obtain ⟨b1, o1, rfl, hb1, g1⟩ := (HZ.out.below T4.out.bel).get hlt
      have hH1 := (HH.out.below T4.out.bel).has (A.getD i 0)
      have hke : A[i] = A.getD i 0 := by rw [List.getD_eq_getElem?_getD, List.getElem?_eq_getElem hlt]; rfl
      by_cases hf : hasR N (A.getD i 0)
      rotate_left
      · rw [Bool.eq_false_iff.2 (fun h => hf ((hasN_iff N rfl).1 h))] at hH1
        have H1 := hide hH1
        have FIN : Hid (NdsL N A w (.returned (.tuple #[.slice none 0 0, .int .i64 1])) wr) := ⟨.inr ⟨fun h => hf (h _ (getD_mem hlt)), rfl⟩, T4.out.bel⟩
        clear hH1 hf hke hb1
        generalize A.getD i 0 = fv at *
        go_wp2_with (go_at_call 52; refine H1.out.mono ?_; rintro e w2 ⟨rfl, hw1⟩; have hw2 := hw1.symm; clear hw1; subst hw2)
        go_ret2
        exact FIN.out
      rw [(hasN_iff N rfl).2 hf] at hH1
      have H1 := hide hH1
      have HC := hide (TA.out wr _ _ (A.getD i 0) 0 T4.out hf (by have h5 := hf.2; have h6 := HNN.out; omega) (FO.out i HT.out))
      have EQ : Hid ((A.take (i + 1)).foldl (fun s f => thrF N nn f s) (List.replicate nn false, []) = thrF N nn (A.getD i 0) ((A.take i).foldl (fun s f => thrF N nn f s) (List.replicate nn false, []))) := by
        unfold Hid
        rw [List.take_succ_eq_append_getElem hlt, List.foldl_append, hke]
        rfl
      rw [← EQ.out] at HC
      have HT2 : Hid (∀ f ∈ A.take (i + 1), hasR N f) := fun f hm => by
        rw [List.take_succ_eq_append_getElem hlt, hke] at hm
        rcases List.mem_append.1 hm with h5 | h5
        · exact HT.out f h5
        · simp at h5; rw [h5]; simpa [List.getD_eq_getElem?_getD] using hf
      clear EQ hke hf hb1 hH1
      generalize A.getD i 0 = fv at *
      go_wp2_with (first
        | (go_at_call 52; refine H1.out.mono ?_; rintro e w2 ⟨rfl, hw1⟩; have hw2 := hw1.symm; clear hw1; subst hw2)
        | (go_at_call 70; refine HC.out.mono ?_; rintro e w5 ⟨v5, rfl, t5, _, _⟩; obtain ⟨la5, lc5, hv5, _⟩ := own_shape t5.own; subst hv5; have T5 := hide t5; clear t5))
      go_roundw
      case rel => exact ⟨i + 1, by omega, by go_num, HT2, T5⟩
      case measure => simp [RowKit.intOf]; omega
    · have hlt' : ¬ (i : Int) < (A.length : Int) := by omega
      obtain rfl : i = A.length := by omega
      rw [List.take_length] at T4 HT
      rw [← NF.out] at T4
      rw [List.take_length, ← NF.out]
      have FIN : Hid (NdsL N A w (.returned (.tuple #[.slice la4 (nodF N A).2.length lc4, .int .i64 0])) wr) := ⟨.inl ⟨HT.out, _, rfl, T4.out.own⟩, T4.out.bel⟩
      generalize (nodF N A).2.length = ln at *
      go_wp2
      go_ret2
      exact FIN.out
end
end Go.Proofs.Ytaafeflbanoncaa
/-
  Marks laid into lists that came out, and blocks of other types, which stay. Of no program: no condition.
-/
namespace Go.Proofs.Ytaafeflbanoncaa
open Go.RowKit Go.Lib

/-- Blocks of types outside Q stay. -/
def KeepQ (Q : TypeId → Prop) (w w' : World) : Prop := ∀ (k : Nat) (cs : Array Value) (T : TypeId) (f : Nat × Nat), ¬ Q T → w.heap[k]? = some (.cells cs T f) → w'.heap[k]? = some (.cells cs T f)
theorem KeepQ.refl (Q : TypeId → Prop) (w : World) : KeepQ Q w w := fun _ _ _ _ _ h => h
theorem KeepQ.trans {Q : TypeId → Prop} {a b c : World} (h : KeepQ Q a b) (h' : KeepQ Q b c) : KeepQ Q a c := fun k cs T f h1 h3 => h' k cs T f h1 (h k cs T f h1 h3)
theorem KeepQ.below {Q : TypeId → Prop} {a b : World} (h : Below a.heap.size a b) : KeepQ Q a b := fun k _ _ _ _ h3 => (h.block k (lt_of_block h3)).trans h3
theorem KeepQ.kept {Q : TypeId → Prop} {F : Nat → Prop} {a b : World} (h : Kept F a b) (hF : ∀ k, F k → ∃ cs T f, a.heap[k]? = some (.cells cs T f) ∧ Q T) : KeepQ Q a b := fun k cs T f h1 h3 => (h.block k (lt_of_block h3) (fun hf => by
  obtain ⟨cs', T', f', h4, h5⟩ := hF k hf
  rw [h3] at h4
  simp at h4
  exact h1 (by rw [h4.2.1]; exact h5))).trans h3
theorem KeepQ.own {Q : TypeId → Prop} {a b : World} {base size n : Nat} {e : TypeId} {v : Value} {xs : List Value} (ho : a.ownsRow base e size v n xs) (hq : Q e) (h : Kept (fun k => v.ownBlock = some k) a b) : KeepQ Q a b :=
  KeepQ.kept h (fun k hk => by obtain ⟨cs, h1⟩ := own_ty ho k hk; exact ⟨cs, e, _, h1, hq⟩)
theorem KeepQ.app {Q : TypeId → Prop} {a b : World} {base size n : Nat} {e : TypeId} {v v' : Value} {xs : List Value} (h : AppAt a b v v') (ho : a.ownsRow base e size v n xs) (hq : Q e) : KeepQ Q a b := by
  rcases h with ⟨g, h1, _, h3⟩ | ⟨h1, _⟩
  · exact KeepQ.own ho hq ((kept_of_grown h3).mono (fun k hk => h1.trans hk))
  · exact KeepQ.below (below_of_grown h1)
theorem own_keepQ {Q : TypeId → Prop} {w w' : World} {base size n : Nat} {e : TypeId} {v : Value} {xs : List Value} (h : w.ownsRow base e size v n xs) (hk : KeepQ Q w w') (hq : ¬ Q e) : w'.ownsRow base e size v n xs := by
  refine ⟨h.1, ?_⟩
  rcases h.2 with hn | ⟨g, cap, cur, rfl, hb', hg, r⟩
  · exact .inl hn
  · exact .inr ⟨g, cap, cur, rfl, hb', hk g _ _ _ hq hg, r⟩
theorem Vw.keepQ {Q : TypeId → Prop} {T : TypeId} {sz : Nat} {mc : Nat → List Value} {w w' : World} {v : Value} {n i : Nat} (h : Vw T sz mc w v n i) (hk : KeepQ Q w w') (hq : ¬ Q T) : Vw T sz mc w' v n i := by
  refine ⟨?_, fun k hb => ?_, h.le⟩
  · obtain ⟨ao, cap, rfl, h0 | ⟨g, rfl, hc⟩⟩ := h.shape
    · exact ⟨ao, cap, rfl, .inl h0⟩
    · obtain ⟨cs, h3⟩ := h.ty g rfl
      refine ⟨_, cap, rfl, .inr ⟨g, rfl, fun j hj => ?_⟩⟩
      rw [← hc j hj, cell_of_row _ _ _ _ _ _ h3, cell_of_row _ _ _ _ _ _ (hk g _ _ _ hq h3)]
  · obtain ⟨cs, h3⟩ := h.ty k hb
    exact ⟨cs, hk k _ _ _ hq h3⟩
section
variable {TS T : TypeId} {sz : Nat} {Q : TypeId → Prop}
theorem LsAt.keepQ {w w' : World} {base : Nat} {l : Value} {D : List LD} {X : Nat → List Value} (h : LsAt TS T sz w base l D X) (hk : KeepQ Q w w') (h1 : ¬ Q TS) (h2 : ¬ Q T) : LsAt TS T sz w' base l D X :=
  ⟨own_keepQ h.row hk h1, fun i hi => own_keepQ (h.each i hi) hk h2, h.apart⟩
end
/-- Values laid one behind the other. -/
def setL : List Value → Nat → List Value → List Value
  | xs, _, [] => xs
  | xs, o, v :: vs => setL (xs.set o v) (o + 1) vs
theorem setL_length : ∀ (vs xs : List Value) (o : Nat), (setL xs o vs).length = xs.length
  | [], _, _ => rfl
  | v :: vs, xs, o => by rw [setL, setL_length vs, List.length_set]
theorem setL_lo : ∀ (vs xs : List Value) (o j : Nat), j < o → (setL xs o vs)[j]? = xs[j]?
  | [], _, _, _, _ => rfl
  | v :: vs, xs, o, j, h => by rw [setL, setL_lo vs _ _ j (by omega), List.getElem?_set_ne (by omega)]
theorem setL_in : ∀ (vs xs : List Value) (o j : Nat), o ≤ j → j < o + vs.length → o + vs.length ≤ xs.length → (setL xs o vs)[j]? = vs[j - o]?
  | [], _, o, j, h, h2, _ => by simp at h2; omega
  | v :: vs, xs, o, j, h, h2, h3 => by
    rw [List.length_cons] at h2 h3
    rw [setL]
    by_cases hj : j = o
    · subst hj
      rw [setL_lo vs _ _ j (by omega), List.getElem?_set_self (by omega), Nat.sub_self]
      rfl
    · rw [setL_in vs _ _ j (by omega) (by omega) (by rw [List.length_set]; omega), show j - o = (j - (o + 1)) + 1 by omega, List.getElem?_cons_succ]
/-- The marks laid so far. -/
structure Mkg (TS T : TypeId) (sz : Nat) (mc : Nat → List Value) (w0 : World) (base : Nat) (l : Value) (D : List LD) (i k : Nat) (X : Nat → List Value) (w : World) : Prop where
  ls : LsAt TS T sz w base l D X
  done : ∀ i' (h : i' < D.length), i' < i → X i' = rep mc i' (D[i']).n
  part : ∀ j, j < k * sz → (X i)[j]? = (mc i)[j % sz]?
  below : Below base w0 w
  keep : KeepQ (fun t => t = T) w0 w
  kd : Kept (fun k => FutL D 0 k) w0 w
section
variable {TS T : TypeId} {sz : Nat} {mc : Nat → List Value}
theorem Mkg.start {w : World} {base : Nat} {l : Value} {D : List LD} {X : Nat → List Value} (h : LsAt TS T sz w base l D X) : Mkg TS T sz mc w base l D 0 0 X w :=
  ⟨h, fun i' _ h => by omega, fun j h => by omega, Below.refl _ _, KeepQ.refl _ _, Kept.refl _ _⟩
theorem Mkg.step (hmc : ∀ i, (mc i).length = sz) (hne : TS ≠ T) {w0 w w' : World} {base : Nat} {l : Value} {D : List LD} {i k : Nat} {X : Nat → List Value} (h : Mkg TS T sz mc w0 base l D i k X w) (hi : i < D.length) (hk : k < (D[i]).n)
    (h1 : w'.ownsRow base T sz (D[i]).v (D[i]).n (setL (X i) (k * sz) (mc i))) (h2 : Kept (fun j => (D[i]).v.ownBlock = some j) w w') (hbw : base ≤ w0.heap.size) : ∃ X', Mkg TS T sz mc w0 base l D i (k + 1) X' w' := by
  have hh := h.ls.each i hi
  have hl := hh.1
  have hkn : (k + 1) * sz ≤ (D[i]).n * sz := Nat.mul_le_mul_right sz hk
  rw [Nat.succ_mul] at hkn
  refine ⟨fun j => if j = i then setL (X i) (k * sz) (mc i) else X j, h.ls.turned hne hi h1 h2, fun i' hi' hlt => ?_, fun j hj => ?_, ?_, h.keep.trans (KeepQ.own hh rfl h2), h.kd.trans (h2.mono (fun j hj => ⟨i, hi, Nat.zero_le _, hj⟩))⟩
  · simp only [show ¬ i' = i by omega, if_false]
    exact h.done i' hi' hlt
  · simp only [if_true]
    rw [Nat.succ_mul] at hj
    by_cases hj2 : j < k * sz
    · rw [setL_lo _ _ _ _ hj2]
      exact h.part j hj2
    · rw [setL_in _ _ _ _ (by omega) (by rw [hmc]; omega) (by rw [hmc]; omega)]
      congr 1
      obtain ⟨d, rfl⟩ : ∃ d, j = k * sz + d := ⟨j - k * sz, by omega⟩
      rw [Nat.mul_comm k sz, Nat.mul_add_mod, Nat.mod_eq_of_lt (by omega)]
      omega
  · exact h.below.trans (h2.below (Nat.le_trans hbw h.below.size) (fun j hj => (World.ownsRow.lt hh j hj).1))
theorem Mkg.next (hmc : ∀ i, (mc i).length = sz) {w0 w : World} {base : Nat} {l : Value} {D : List LD} {i : Nat} {X : Nat → List Value} (hi : i < D.length) (h : Mkg TS T sz mc w0 base l D i (D[i]).n X w) : Mkg TS T sz mc w0 base l D (i + 1) 0 X w := by
  refine ⟨h.ls, fun i' h1 h2 => ?_, fun j hj => by omega, h.below, h.keep, h.kd⟩
  rcases Nat.lt_or_ge i' i with h3 | h3
  · exact h.done i' h1 h3
  · obtain rfl : i' = i := by omega
    have hl := (h.ls.each i' hi).1
    apply List.ext_getElem?
    intro j
    by_cases hj : j < (D[i']).n * sz
    · rw [h.part j hj, rep_get hmc i' _ j hj]
    · rw [List.getElem?_eq_none (by omega), List.getElem?_eq_none (by rw [rep_length hmc]; omega)]
theorem Mkg.out {w0 w : World} {base : Nat} {l : Value} {D : List LD} {X : Nat → List Value} (h : Mkg TS T sz mc w0 base l D D.length 0 X w) : LsAt TS T sz w base l D (fun i => rep mc i ((D[i]?.map LD.n).getD 0)) := by
  refine ⟨h.ls.row, fun i hi => ?_, h.ls.apart⟩
  have := h.ls.each i hi
  rw [h.done i hi hi] at this
  simpa [hi] using this
end
end Go.Proofs.Ytaafeflbanoncaa
