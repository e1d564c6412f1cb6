/-
  Eval by its contract. No condition.
-/
import Derived.Test.YtnddhkhmbjeefaaP32
import Derived.Test.YtnddhkhmbjeefaaP06
import Derived.Test.YtnddhkhmbjeefaaP12
import Derived.Deep.DeepCutAuto
import Derived.Deep.CutBlock
import Derived.Test.YtnddhkhmbjeefaaP38
import Derived.Test.YtnddhkhmbjeefaaP47
import Derived.Test.YtnddhkhmbjeefaaP40
namespace Go.Proofs.Ytnddhkhmbjeefaa
open Go.RowKit Go.Lib Go.Maps

/-- A point, by the list of its classes. -/
def ptf (A : List Int) : Nat → Nat := fun i => (A.getD i 0).toNat
theorem PtL.pnt {S A : List Int} (h : PtL S A) : Pnt S (ptf A) := fun l hl => by
  have := h.each l (by rw [h.len]; exact hl)
  unfold ptf
  omega
section
variable {w : World} {a : Nat} {S : List Int} {M : Int} {N : List Nd} {m : Nat} {P : Nat → Prop} {f : Int}
set_option maxRecDepth 100000 in
set_option maxHeartbeats 2000000 in
theorem eval_ok {ao : Option Addr} {cap : Nat} {A : List Int} (h : CA w a S M N m P) (hf : hasR N f) (hA : PtL S A) (hz : ZAt w ao A) :
    Calls Try.prog 18 #[.pointer (some ⟨a, 0, none⟩), .int .i64 f, .slice ao A.length cap] w fun e w' => e = .returned (.tuple #[.bool (sayR N (ptf A) f), .int .i64 0]) ∧ Below w.heap.size w w' := by
  have HH := hide h
  have HF := hide hf
  have HA := hide hA
  have HZ := hide hz
  have hs12 := h.ok.sz.le
  have hlen := hA.len
  have y1 : Below w.heap.size w (w.alloc (.cells #[.int .i64 f] 3)) := al (Below.refl _ _) _
  have X1 := hide y1
  have AT := hide (areThere_any (some ⟨w.heap.size, 0, none⟩) 1 [f] (by simp) (zat_new w [f]) (h.below y1))
  have IP := hide (fun W (x : Below w.heap.size w W) => isPoint_ok ao cap A hA (hz.below x) (h.below x))
  have HLN := hide hlen
  clear h hf hA hz y1 hlen
  go_enter Try.func18, Try.ntmps18
  go_upto_block 0 with (first
    | (go_at_call 43; refine AT.out.mono ?_; rintro e w1 ⟨⟨b, rfl, hb⟩, x1⟩; have hbt := hb.2 (by intro z hz; simp at hz; rw [hz]; exact HF.out); subst hbt; have X2 := hide (bt X1.out x1 (Nat.le_refl _)); clear hb x1)
    | (go_at_call 44; refine (IP.out _ X2.out).mono ?_; rintro e w2 ⟨rfl, x2⟩; have X3 := hide (bt X2.out x2 (Nat.le_refl _)); clear x2))
  clear AT IP X1 X2
  go_wp2
  go_loopw [1] (fun x wr => ∃ f' : Int, x = .int .i64 f' ∧ Hid (hasR N f') ∧ Hid (sayR N (ptf A) f' = sayR N (ptf A) f) ∧ Hid (Below w.heap.size w wr)) (fun x _ => (RowKit.intOf x).toNat)
  case atStart => exact ⟨f, rfl, HF, rfl, X3⟩
  case round =>
    obtain ⟨f', rfl, HF', HE, XB⟩ := hrel
    by_cases h2 : 2 ≤ f'
    · have n0 : (f' != 0) = true := by simp; omega
      have n1 : (f' != 1) = true := by simp; omega
      have ok := HH.out.ok
      obtain ⟨l, ks, hn⟩ := ok.ndAt h2 HF'.out.2
      obtain ⟨i, hi⟩ : ∃ i : Nat, f' = (i : Int) + 2 := ⟨(f' - 2).toNat, by omega⟩
      have hat := hn.at_
      rw [show (f' - 2).toNat = i by omega] at hat
      have hp := HA.out.pnt
      have hkl := hn.cls hp
      have hl := hn.lt
      have HS := hide (hn.says ok hp h2 HF'.out.2)
      have HKD := hide (hn.kid _ hkl)
      have ND := (HH.out.below XB.out).node f'
      have HND := hide ND
      have HAT := hide hat
      have HI := hide hi
      have hll : l < A.length := by rw [HLN.out]; exact hl
      have hll' : (l : Int) < (A.length : Int) := by omega
      obtain ⟨bz, oz, rfl, hbz, gz⟩ := (HZ.out.below XB.out).get hll
      have hcl : ((A.getD l 0).toNat : Int) = A.getD l 0 := by have := (HA.out.each l hll).1; omega
      have hpl : ptf A l = (A.getD l 0).toNat := rfl
      rw [hpl] at HS HKD hkl
      obtain ⟨cl, hcl2⟩ : ∃ cl : Nat, (A.getD l 0).toNat = cl := ⟨_, rfl⟩
      rw [hcl2] at HS HKD hkl hcl
      rw [← hcl] at gz
      have hkl' : (cl : Int) < (ks.length : Int) := by omega
      have HKL := hide hkl
      have H2 := hide h2
      have GZ := hide gz
      clear ok hn hat hi hp hl ND hpl hcl2 hcl gz h2 hkl
      go_upto_region 5 with (go_at_call 45; refine HND.out.mono ?_; rintro e w3 ⟨⟨i', lv', ks', g, cp, hi', hf', rfl, o3, z3, l3⟩ | ⟨hno, _⟩, x3⟩; rotate_left; (exfalso; exact hno (by have h1 := H2.out; have h2 := HF'.out.2; omega)); have hii : i' = i := (by have := HI.out; omega); subst hii; have hks := hi'.symm.trans HAT.out; have hlk : lv' = (l : Int) ∧ ks' = ks := (by injection hks with hks; injection hks with h1 h2; exact ⟨h1, h2⟩); obtain ⟨h1, h2⟩ := hlk; subst h1 h2; clear hks hi' hf' o3; have Z3 := hide z3; have X5 := hide x3; clear z3 l3 x3)
      have y4 : Below w3.heap.size w3 (w3.alloc (.cells #[.int .i64 (l : Int), .slice (some ⟨g, 0, none⟩) ks'.length cp] 86)) := al (Below.refl _ _) _
      have nb : (w3.alloc (.cells #[.int .i64 (l : Int), .slice (some ⟨g, 0, none⟩) ks'.length cp] 86)).drew.heap[w3.heap.size]? = some (.cells #[.int .i64 (l : Int), .slice (some ⟨g, 0, none⟩) ks'.length cp] 86 (0, 0)) := heap_alloc_new w3 _
      have Y4' := hide (bt y4 (Below.refl _ (w3.alloc (.cells #[.int .i64 (l : Int), .slice (some ⟨g, 0, none⟩) ks'.length cp] 86))).drew (Nat.le_refl _))
      refine wp_unt (S := fun V => V = (w3.alloc (.cells #[.int .i64 (l : Int), .slice (some ⟨g, 0, none⟩) ks'.length cp] 86)).drew) 9 (by kernel_rfl) ?_
      generalize (w3.alloc (.cells #[.int .i64 (l : Int), .slice (some ⟨g, 0, none⟩) ks'.length cp] 86)).drew = w4 at *
      have z4 := (Z3.out.congr (w' := w4) (Y4'.out.block _ Z3.out.lt)).cell HKL.out
      have q3 := ((bt X5.out Y4'.out (Nat.le_refl _)).cell (p := ⟨bz, oz + l, none⟩) hbz).trans GZ.out
      have XN := hide (bt XB.out (bt X5.out Y4'.out (Nat.le_refl _)) (Nat.le_refl _))
      clear Y4' y4
      generalize w3.heap.size = nb4 at *
      have q0 : w4.cell? ⟨nb4, 0, none⟩ = some (.int .i64 (l : Int)) := by rw [cell_of_row _ _ _ _ _ _ nb]; rfl
      have q1 : w4.cell? ⟨nb4, 1, none⟩ = some (.slice (some ⟨g, 0, none⟩) ks'.length cp) := by rw [cell_of_row _ _ _ _ _ _ nb]; rfl
      obtain ⟨x, hx⟩ : ∃ x, ks'.getD cl 0 = x := ⟨_, rfl⟩
      rw [hx] at z4 HS HKD
      clear hx nb
      refine UntH.take (i := 0) (some 33) rfl rfl (by kernel_rfl) (by kernel_rfl) (by kernel_rfl) (by kernel_rfl) (fun _ _ _ _ h => h) (by rfl) rfl ?_
      apply Exists.intro
      refine ⟨fun w' hw' => ?_, ?_⟩
      · subst hw'
        go_simp
        first | done | rfl
      try simp only [Act.put, List.setIfInBounds_toArray, List.set_cons_zero, List.set_cons_succ]
      refine UntH.take (i := 1) (some 34) rfl rfl (by kernel_rfl) (by kernel_rfl) (by kernel_rfl) (by kernel_rfl) (fun _ _ _ _ h => h) (by rfl) rfl ?_
      apply Exists.intro
      refine ⟨fun w' hw' => ?_, ?_⟩
      · subst hw'
        go_simp
        first | done | rfl
      try simp only [Act.put, List.setIfInBounds_toArray, List.set_cons_zero, List.set_cons_succ]
      refine UntH.take (i := 2) (some 35) rfl rfl (by kernel_rfl) (by kernel_rfl) (by kernel_rfl) (by kernel_rfl) (fun _ _ _ _ h => h) (by rfl) rfl ?_
      apply Exists.intro
      refine ⟨fun w' hw' => ?_, ?_⟩
      · subst hw'
        go_simp
        first | done | rfl
      try simp only [Act.put, List.setIfInBounds_toArray, List.set_cons_zero, List.set_cons_succ]
      refine UntH.take (i := 3) (some 36) rfl rfl (by kernel_rfl) (by kernel_rfl) (by kernel_rfl) (by kernel_rfl) (fun _ _ _ _ h => h) (by rfl) rfl ?_
      apply Exists.intro
      refine ⟨fun w' hw' => ?_, ?_⟩
      · subst hw'
        go_simp
        first | done | rfl
      try simp only [Act.put, List.setIfInBounds_toArray, List.set_cons_zero, List.set_cons_succ]
      refine UntH.take (i := 4) (some 37) rfl rfl (by kernel_rfl) (by kernel_rfl) (by kernel_rfl) (by kernel_rfl) (fun _ _ _ _ h => h) (by rfl) rfl ?_
      apply Exists.intro
      refine ⟨fun w' hw' => ?_, ?_⟩
      · subst hw'
        go_simp
        first | done | rfl
      try simp only [Act.put, List.setIfInBounds_toArray, List.set_cons_zero, List.set_cons_succ]
      refine UntH.take (i := 5) (some 38) rfl rfl (by kernel_rfl) (by kernel_rfl) (by kernel_rfl) (by kernel_rfl) (fun _ _ _ _ h => h) (by rfl) rfl ?_
      apply Exists.intro
      refine ⟨fun w' hw' => ?_, ?_⟩
      · subst hw'
        go_simp
        first | done | rfl
      try simp only [Act.put, List.setIfInBounds_toArray, List.set_cons_zero, List.set_cons_succ]
      refine UntH.take (i := 6) (some 39) rfl rfl (by kernel_rfl) (by kernel_rfl) (by kernel_rfl) (by kernel_rfl) (fun _ _ _ _ h => h) (by rfl) rfl ?_
      apply Exists.intro
      refine ⟨fun w' hw' => ?_, ?_⟩
      · subst hw'
        go_simp
        first | done | rfl
      try simp only [Act.put, List.setIfInBounds_toArray, List.set_cons_zero, List.set_cons_succ]
      refine UntH.take (i := 7) (some 40) rfl rfl (by kernel_rfl) (by kernel_rfl) (by kernel_rfl) (by kernel_rfl) (fun _ _ _ _ h => h) (by rfl) rfl ?_
      apply Exists.intro
      refine ⟨fun w' hw' => ?_, ?_⟩
      · subst hw'
        go_simp
        first | done | rfl
      try simp only [Act.put, List.setIfInBounds_toArray, List.set_cons_zero, List.set_cons_succ]
      refine UntH.take (i := 8) (some 41) rfl rfl (by kernel_rfl) (by kernel_rfl) (by kernel_rfl) (by kernel_rfl) (fun _ _ _ _ h => h) (by rfl) rfl ?_
      apply Exists.intro
      refine ⟨fun w' hw' => ?_, ?_⟩
      · subst hw'
        go_simp
        first | done | rfl
      try simp only [Act.put, List.setIfInBounds_toArray, List.set_cons_zero, List.set_cons_succ]
      refine UntH.last (by kernel_rfl) rfl (by kernel_rfl) (by kernel_rfl) (fun K hK => ?_)
      go_simp
      refine hK _ _ ?_
      clear hK K
      go_wp2
      go_roundw
      case rel => exact ⟨x, rfl, ⟨HKD.out.1, by have h1 := HKD.out.2.1; have h2 := HF'.out.2; omega⟩, HS.out.symm.trans HE.out, XN⟩
      case measure => have h1 := HKD.out; have h2 := HI.out; simp [RowKit.intOf]; omega
    · have hlo := HF'.out.1
      have HD := hide (HE.out.symm.trans (sayR_low h2))
      by_cases h0 : f' = 0
      · subst h0
        go_wp2
        go_ret2
        exact ⟨by rw [HD.out]; rfl, XB.out⟩
      · obtain rfl : f' = 1 := by omega
        go_wp2
        go_ret2
        exact ⟨by rw [HD.out]; rfl, XB.out⟩
end
end Go.Proofs.Ytnddhkhmbjeefaa
/-
  What OrderSays wants, in pure words: orders out of permutations; in Best's order there is room, and there are no more nodes; a point led along. No condition.
-/
namespace Go.Proofs.Ytnddhkhmbjeefaa
open Go.RowKit Go.Lib Go.Maps

section
variable {S : List Int} {F : List Phi} {R : List Int} {L : List Lay} {o : List Int} {M : Int}
theorem ord_of_perm (h : o.Perm (lows S.length)) : IsOrd S o := ⟨h.nodup_iff.2 lows_nodup, by rw [h.length_eq]; simp [lows], fun l hl => lows_mem.1 (h.mem_iff.1 hl)⟩
theorem fold_err (hS : SzOk S) (ho : IsOrd S o) (G : GD S F R L) (h0 : 0 ≤ M) (h1 : M ≤ 8192) : (foldF S M F o).2.1 = 0 ∨ (foldF S M F o).2.1 = 2 := by
  obtain ⟨L', G', rfl⟩ := order_ex hS ho G
  rcases fold_nodes hS G' h0 h1 with ⟨e, _⟩ | ⟨e, _⟩
  · exact .inl e
  · exact .inr e
theorem fold_few (hS : SzOk S) (ho : IsOrd S o) (G : GD S F R L) (h0 : 0 ≤ M) (h1 : M ≤ 8192) : ((foldF S M F o).2.2.length : Int) ≤ M := by
  obtain ⟨L', G', rfl⟩ := order_ex hS ho G
  exact (fold_out hS G' h0 h1).ok.few
theorem best_ord : IsOrd S (bsO (cN S F M) (lows S.length) S.length) :=
  ord_of_perm (bsO_perm (c := cN S F M) (o := lows S.length) (n := S.length) (fun k hk => lows_mem.2 ⟨by omega, by omega⟩) S.length (Nat.le_refl _))
theorem best_room (hS : SzOk S) (G : GD S F R L) (h0 : 0 ≤ M) (h1 : M ≤ 8192) (he : (foldF S M F (lows S.length)).2.1 = 0) :
    (foldF S M F (bsO (cN S F M) (lows S.length) S.length)).2.1 = 0 ∧ (foldF S M F (bsO (cN S F M) (lows S.length) S.length)).2.2.length ≤ (foldF S M F (lows S.length)).2.2.length := by
  have hle := bsO_le (c := cN S F M) (o := lows S.length) (n := S.length) (fun k hk => lows_mem.2 ⟨by omega, by omega⟩) S.length (Nat.le_refl _)
  have hf := fold_few hS (lows_ord S) G h0 h1
  generalize bsO (cN S F M) (lows S.length) S.length = b at *
  unfold cN at hle
  rw [if_pos he] at hle
  by_cases hb : (foldF S M F b).2.1 = 0
  · rw [if_pos hb] at hle
    exact ⟨hb, by omega⟩
  · rw [if_neg hb] at hle
    omega
/-- Of the point in the new order what is laid down so far. -/
structure NwP (o old : List Int) (k : Nat) (Q : List Int) : Prop where
  len : Q.length = o.length
  at' : ∀ i (h : i < o.length), i < k → Q.getD i 0 = old.getD (o[i]).toNat 0
variable {old Q : List Int} {k : Nat}
theorem NwP.start : NwP o old 0 (List.replicate o.length 0) := ⟨by simp, fun i _ h => by omega⟩
theorem NwP.step (h : NwP o old k Q) (hk : k < o.length) : NwP o old (k + 1) (Q.set k (old.getD (o[k]).toNat 0)) := by
  refine ⟨by rw [List.length_set]; exact h.len, fun i hi hik => ?_⟩
  by_cases e : i = k
  · subst e
    rw [List.getD_eq_getElem?_getD, List.getElem?_set_self (by rw [h.len]; omega)]
    rfl
  · rw [List.getD_eq_getElem?_getD, List.getElem?_set_ne (fun x => e x.symm), ← List.getD_eq_getElem?_getD]
    exact h.at' i hi (by omega)
theorem NwP.pt (h : NwP o old o.length Q) (ho : IsOrd S o) (hp : PtL S old) : PtL (ledS S o) Q ∧ ∀ i (hi : i < o.length), ptf Q i = ptf old (o[i]).toNat := by
  refine ⟨⟨by rw [h.len, ledS_length ho, ho.len], fun i hi => ?_⟩, fun i hi => ?_⟩
  · have hi' : i < o.length := by rw [← h.len]; exact hi
    have hr := ho.rng _ (List.getElem_mem hi')
    have hw : (o[i]).toNat < old.length := by rw [hp.len]; omega
    have e := hp.each _ hw
    rw [h.at' i hi' hi', ledS_at (lv := o[i]) (List.getElem?_eq_getElem hi')]
    unfold szL
    exact e
  · unfold ptf
    rw [h.at' i hi hi]
theorem PtL.zero (hS : SzOk S) : PtL S (List.replicate S.length 0) := ⟨by simp, fun i hi => by
  have hi' : i < S.length := by simpa using hi
  have h1 := (hS.each _ (List.getElem_mem hi')).1
  rw [List.getD_eq_getElem?_getD, List.getD_eq_getElem?_getD, List.getElem?_replicate, if_pos hi', List.getElem?_eq_getElem hi']
  exact ⟨Int.le_refl _, by show 0 < S[i]; omega⟩⟩
theorem PtL.set (h : PtL S Q) {c : Int} (h0 : 0 ≤ c) (h1 : c < S.getD k 0) : PtL S (Q.set k c) := ⟨by rw [List.length_set]; exact h.len, fun i hi => by
  rw [List.length_set] at hi
  by_cases e : i = k
  · subst e
    rw [List.getD_eq_getElem?_getD, List.getElem?_set_self hi]
    exact ⟨h0, h1⟩
  · rw [List.getD_eq_getElem?_getD, List.getElem?_set_ne (fun x => e x.symm), ← List.getD_eq_getElem?_getD]
    exact h.each i hi⟩
end
/-- A point that came in. -/
structure QZ where
  pa : Option Addr
  pc : Nat
  L : List Int
structure QtOk (w : World) (x : QZ) : Prop where
  fit : ∀ k ∈ x.L, Fit k
  at' : ZAt w x.pa x.L
  len : x.L.length ≤ 17592186043904
def QtAt (w : World) (so : Option Addr) (T : List QZ) : Prop := T = [] ∨ ∃ b off, so = some ⟨b, off, none⟩ ∧ b < w.heap.size ∧ ∀ i (h : i < T.length), w.cell? ⟨b, off + i, none⟩ = some (.slice T[i].pa T[i].L.length T[i].pc) ∧ QtOk w T[i]
theorem QtOk.below {w w' : World} {x : QZ} (h : QtOk w x) (y : Below w.heap.size w w') : QtOk w' x := ⟨h.fit, h.at'.below y, h.len⟩
theorem QtAt.below {w w' : World} {so : Option Addr} {T : List QZ} (h : QtAt w so T) (y : Below w.heap.size w w') : QtAt w' so T := by
  rcases h with h | ⟨b, off, e, hb, h⟩
  · exact .inl h
  · exact .inr ⟨b, off, e, Nat.lt_of_lt_of_le hb y.size, fun i hi => ⟨(y.cell (p := ⟨b, off + i, none⟩) hb).trans (h i hi).1, (h i hi).2.below y⟩⟩
theorem QtAt.get {w : World} {so : Option Addr} {T : List QZ} (h : QtAt w so T) {i : Nat} (hi : i < T.length) : ∃ b off, so = some ⟨b, off, none⟩ ∧ b < w.heap.size ∧ w.cell? ⟨b, off + i, none⟩ = some (.slice T[i].pa T[i].L.length T[i].pc) ∧ QtOk w T[i] := by
  rcases h with h | ⟨b, off, e, hb, h⟩
  · rw [h] at hi; simp at hi
  · exact ⟨b, off, e, hb, (h i hi).1, (h i hi).2⟩
end Go.Proofs.Ytnddhkhmbjeefaa
