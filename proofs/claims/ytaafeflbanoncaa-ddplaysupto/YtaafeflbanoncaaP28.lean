/-
  The document's Kid by its contract; its memory of an operation: kid, leaf. No condition.
-/
import Derived.Test.YtaafeflbanoncaaP27
import Derived.Test.YtaafeflbanoncaaP12
import Derived.Test.YtaafeflbanoncaaP20
namespace Go.Proofs.Ytaafeflbanoncaa
open Go.RowKit Go.Lib Go.Maps

section
variable {w : World} {x : Nat} {S : List Int} {M : Int} {R : List ND} {N : List Nd} {P : Nat → Prop} {sb sc : Nat} {nv lv : Value} {LV : List Value}
set_option maxRecDepth 100000 in
theorem kidD_any {i c : Nat} {l : Int} {ks : List Int} (h : RA w x S M N P) (hi : N[i]? = some (l, ks)) (hc : c < ks.length) : Calls Try.prog 68 #[.pointer (some ⟨x, 0, none⟩), .int .i64 ((i : Int) + 2), .int .i64 (c : Int)] w fun e w' => e = .returned (.int .i64 (ks.getD c 0)) ∧ w' = w := by
  obtain ⟨R, sb, sc, nv, lv, LV, h1, rfl⟩ := h
  obtain ⟨c0, c1, c2, c3⟩ := h1.cells
  have hfw := h1.few
  have hil := at_lt hi
  rw [List.length_map] at hil
  obtain ⟨ao, cap, hv, hp, _⟩ := h1.row.shape
  obtain ⟨g, rfl⟩ := hp (by omega)
  subst hv
  obtain ⟨d0, d1⟩ := h1.node rfl hil
  have e1 : IntKind.i64.wrap ((i : Int) + 2 - 2) = (i : Int) := by simp [IntKind.wrap, IntKind.bits, IntKind.signed]; omega
  have hi' : (i : Int) < (R.length : Int) := by omega
  rw [List.getElem?_map, List.getElem?_eq_getElem hil] at hi
  have hks : (R[i]).ks = ks := by
    simp only [Option.map_some, Option.some.injEq, ND.nd, Prod.mk.injEq] at hi
    exact hi.2
  have z := h1.kid _ (List.getElem_mem hil)
  rw [hks] at d1 z
  have q := z.cell hc
  have hc' : (c : Int) < (ks.length : Int) := by omega
  generalize (R[i]).kb = kb at *
  generalize (R[i]).kc = kc at *
  clear h1 hp d0 hi hks z
  generalize ks.getD c 0 = r at *
  generalize R.length = n at *
  go_enter Try.func68, Try.ntmps68
  go_wp2
  go_ret
  exact ⟨rfl, rfl⟩
end
/-- What the document's operation is. -/
structure Df where
  x : Nat
  S : List Int
  M : Int
  mm : Nat
  lb : Nat
  n : Nat
  what : Int
section
variable {w : World} {d : Df} {N : List Nd} {P : Nat → Prop}
/-- The operation's own block. -/
def DBk (w : World) (d : Df) (er : Int) : Prop := w.heap[d.mm]? = some (.cells #[.pointer (some ⟨d.x, 0, none⟩), .int .i64 d.what, .slice (some ⟨d.lb, 0, none⟩) d.n d.n, .int .i64 er] 128 (0, 0))
theorem DBk.cells {er : Int} (h : DBk w d er) : w.cell? ⟨d.mm, 0, none⟩ = some (.pointer (some ⟨d.x, 0, none⟩)) ∧ w.cell? ⟨d.mm, 1, none⟩ = some (.int .i64 d.what) ∧ w.cell? ⟨d.mm, 2, none⟩ = some (.slice (some ⟨d.lb, 0, none⟩) d.n d.n) ∧ w.cell? ⟨d.mm, 3, none⟩ = some (.int .i64 er) := by
  refine ⟨?_, ?_, ?_, ?_⟩ <;> (rw [cell_of_row w d.mm _ _ _ _ h]; rfl)
set_option maxRecDepth 100000 in
theorem kidM_any {f er : Int} {l c : Nat} (h : RA w d.x d.S d.M N P) (hb : DBk w d er) (hf : hasR N f) (hl : l < d.S.length) (hfl : (l : Int) ≤ lvl d.S N f) (hc : (c : Int) < d.S.getD l 0) :
    Calls Try.prog 84 #[.pointer (some ⟨d.mm, 0, none⟩), .int .i64 f, .int .i64 (l : Int), .int .i64 (c : Int)] w fun e w' => e = .returned (.int .i64 (kidR d.S N l f c)) ∧ w' = w := by
  obtain ⟨c0, c1, c2, c3⟩ := hb.cells
  have HL := hide (h.level f)
  by_cases e : lvl d.S N f = (l : Int)
  · obtain ⟨h2, ks, hn⟩ := h.ok.node_of_lvl hf e hl
    have hat := hn.at_
    obtain ⟨i, hi⟩ : ∃ i : Nat, f = (i : Int) + 2 := ⟨(f - 2).toNat, by omega⟩
    subst hi
    rw [show ((i : Int) + 2 - 2).toNat = i by omega] at hat
    have hcl : c < ks.length := by have := hn.len; omega
    have HK := hide (kidD_any h hat hcl)
    rw [kidR_node hn]
    rw [e] at HL
    generalize ks.getD c 0 = r at *
    clear h hf hn hat e h2 hcl hfl hc
    go_enter Try.func84, Try.ntmps84
    go_wp2_with (first
      | (go_at_call 53; refine HL.out.mono ?_; rintro e w1 ⟨rfl, hw1⟩; have hw2 := hw1.symm; clear hw1; subst hw2)
      | (go_at_call 68; refine HK.out.mono ?_; rintro e w1 ⟨rfl, hw1⟩; have hw2 := hw1.symm; clear hw1; subst hw2))
    go_ret
    exact ⟨rfl, rfl⟩
  · rw [kidR_self e]
    have hgt : (l : Int) < lvl d.S N f := by omega
    clear h hf e hc
    generalize lvl d.S N f = y at *
    go_enter Try.func84, Try.ntmps84
    go_wp2_with (go_at_call 53; refine HL.out.mono ?_; rintro e w1 ⟨rfl, hw1⟩; have hw2 := hw1.symm; clear hw1; subst hw2)
    go_ret
    exact ⟨rfl, rfl⟩
/-- What is done. -/
def opD (what : Int) (a b : Bool) : Bool := if what = 1 then a && b else if what = 2 then a || b else a != b
def leafZ (what f g : Int) : Int := if what = 1 then f * g else if what = 2 then max f g else (f + g) % 2
theorem leafZ_rep {what f g : Int} {p : Nat → Nat} (hf : f = 0 ∨ f = 1) (hg : g = 0 ∨ g = 1) : (leafZ what f g = 0 ∨ leafZ what f g = 1) ∧ sayR N p (leafZ what f g) = opD what (sayR N p f) (sayR N p g) := by
  have s0 : sayR N p 0 = false := by rw [sayR_low (by omega)]; rfl
  have s1 : sayR N p 1 = true := by rw [sayR_low (by omega)]; rfl
  unfold leafZ opD
  by_cases h1 : what = 1
  · rw [if_pos h1, if_pos h1]
    rcases hf with rfl | rfl <;> rcases hg with rfl | rfl <;> simp [s0, s1]
  · rw [if_neg h1, if_neg h1]
    by_cases h2 : what = 2
    · rw [if_pos h2, if_pos h2]
      rcases hf with rfl | rfl <;> rcases hg with rfl | rfl
      · rw [show max (0 : Int) 0 = 0 by decide, s0]; simp
      · rw [show max (0 : Int) 1 = 1 by decide, s0, s1]; simp
      · rw [show max (1 : Int) 0 = 1 by decide, s0, s1]; simp
      · rw [show max (1 : Int) 1 = 1 by decide, s1]; simp
    · rw [if_neg h2, if_neg h2]
      rcases hf with rfl | rfl <;> rcases hg with rfl | rfl <;> simp [s0, s1]
set_option maxRecDepth 100000 in
theorem leaf_any {f g er : Int} (hb : DBk w d er) (hf : f = 0 ∨ f = 1) (hg : g = 0 ∨ g = 1) : Calls Try.prog 82 #[.pointer (some ⟨d.mm, 0, none⟩), .int .i64 f, .int .i64 g] w fun e w' => e = .returned (.int .i64 (leafZ d.what f g)) ∧ w' = w := by
  obtain ⟨c0, c1, c2, c3⟩ := hb.cells
  by_cases h1 : d.what = 1
  · have h1' : (d.what == 1) = true := by rw [h1]; rfl
    have HE : Hid (leafZ d.what f g = f * g) := by unfold Hid leafZ; rw [if_pos h1]
    clear h1
    rcases hf with rfl | rfl <;> rcases hg with rfl | rfl <;>
    (go_enter Try.func82, Try.ntmps82
     go_wp2
     go_ret
     exact ⟨by rw [HE.out]; rfl, rfl⟩)
  · have h1' : (d.what == 1) = false := beq_eq_false_iff_ne.2 h1
    by_cases h2 : d.what = 2
    · have h2' : (d.what == 2) = true := by rw [h2]; rfl
      have HE : Hid (leafZ d.what f g = max f g) := by unfold Hid leafZ; rw [if_neg h1, if_pos h2]
      clear h1 h2
      rcases hf with rfl | rfl <;> rcases hg with rfl | rfl <;>
      (go_enter Try.func82, Try.ntmps82
       go_wp2
       go_ret
       exact ⟨by rw [HE.out]; rfl, rfl⟩)
    · have h2' : (d.what == 2) = false := beq_eq_false_iff_ne.2 h2
      have HE : Hid (leafZ d.what f g = (f + g) % 2) := by unfold Hid leafZ; rw [if_neg h1, if_neg h2]
      clear h1 h2
      rcases hf with rfl | rfl <;> rcases hg with rfl | rfl <;>
      (go_enter Try.func82, Try.ntmps82
       go_wp2
       go_ret
       exact ⟨by rw [HE.out]; rfl, rfl⟩)
end
end Go.Proofs.Ytaafeflbanoncaa
/-
  All points of few classes, one by one, and what a ref says of them; in pure words. Of no program: no condition.
-/
namespace Go.Proofs.Ytaafeflbanoncaa
open Go.RowKit

/-- The n-th point. -/
def pnL : List Int → Nat → List Int
  | [], _ => []
  | s :: t, n => ((n % s.toNat : Nat) : Int) :: pnL t (n / s.toNat)
/-- How many there are. -/
def prd : List Int → Nat
  | [] => 1
  | s :: t => s.toNat * prd t
/-- Which one a point is. -/
def idx : List Int → List Int → Nat
  | s :: t, x :: p => x.toNat + s.toNat * idx t p
  | _, _ => 0
theorem pnL_length : ∀ (S : List Int) (n : Nat), (pnL S n).length = S.length
  | [], _ => rfl
  | s :: t, n => by simp [pnL, pnL_length t]
theorem ptl_cons {s x : Int} {t p : List Int} (h0 : 0 ≤ x) (h1 : x < s) (h : PtL t p) : PtL (s :: t) (x :: p) := ⟨by simp [h.len], fun i hi => by
  cases i with
  | zero => exact ⟨h0, h1⟩
  | succ i => exact h.each i (by simpa using hi)⟩
theorem ptl_tail {s x : Int} {t p : List Int} (h : PtL (s :: t) (x :: p)) : (0 ≤ x ∧ x < s) ∧ PtL t p := ⟨h.each 0 (by simp), ⟨by have := h.len; simpa using this, fun i hi => h.each (i + 1) (by simpa using hi)⟩⟩
theorem pnL_ptl : ∀ (S : List Int), (∀ s ∈ S, 1 ≤ s) → ∀ n, PtL S (pnL S n)
  | [], _, _ => ⟨rfl, fun i hi => by cases hi⟩
  | s :: t, h, n => by
    have hs := h s (by simp)
    have hm := Nat.mod_lt n (show 0 < s.toNat by omega)
    exact ptl_cons (by omega) (by omega) (pnL_ptl t (fun x hx => h x (by simp [hx])) _)
theorem idx_pnL : ∀ (S : List Int), (∀ s ∈ S, 1 ≤ s) → ∀ n, n < prd S → idx S (pnL S n) = n
  | [], _, n, h => by simp [prd] at h; simp [idx, h]
  | s :: t, h, n, hn => by
    have hs := h s (by simp)
    unfold pnL idx
    unfold prd at hn
    rw [idx_pnL t (fun x hx => h x (by simp [hx])) (n / s.toNat) (by
      rw [Nat.div_lt_iff_lt_mul (by omega), Nat.mul_comm]; exact hn), Int.toNat_natCast]
    exact Nat.mod_add_div n s.toNat
theorem idx_lt : ∀ (S L : List Int), PtL S L → idx S L < prd S
  | [], [], _ => by simp [idx, prd]
  | [], _ :: _, h => by have := h.len; simp at this
  | _ :: _, [], h => by have := h.len; simp at this
  | s :: t, x :: p, h => by
    obtain ⟨⟨h0, h1⟩, h2⟩ := ptl_tail h
    have := idx_lt t p h2
    unfold idx prd
    have h3 : s.toNat * (idx t p + 1) ≤ s.toNat * prd t := Nat.mul_le_mul_left _ this
    rw [Nat.mul_add, Nat.mul_one] at h3
    omega
theorem pnL_idx : ∀ (S L : List Int), PtL S L → pnL S (idx S L) = L
  | [], [], _ => rfl
  | [], _ :: _, h => by have := h.len; simp at this
  | _ :: _, [], h => by have := h.len; simp at this
  | s :: t, x :: p, h => by
    obtain ⟨⟨h0, h1⟩, h2⟩ := ptl_tail h
    unfold idx pnL
    rw [Nat.add_mul_mod_self_left, Nat.mod_eq_of_lt (by omega), Nat.add_mul_div_left _ _ (by omega), Nat.div_eq_of_lt (by omega), Nat.zero_add, pnL_idx t p h2]
    congr 1
    omega
section
variable {S : List Int} {M : Int} {N T : List Nd} {f g r : Int} {φ : Phi}
def rowP (S : List Int) (φ : Phi) : List Bool := (List.range (prd S)).map fun n => φ (ptf (pnL S n))
def rowR (S : List Int) (N : List Nd) (f : Int) : List Bool := rowP S (fun p => sayR N p f)
theorem rowP_length : (rowP S φ).length = prd S := by simp [rowP]
theorem rowP_get {n : Nat} (h : n < prd S) : (rowP S φ).getD n false = φ (ptf (pnL S n)) := by
  rw [List.getD_eq_getElem?_getD, List.getElem?_eq_getElem (by rw [rowP_length]; exact h)]
  simp [rowP]
theorem SzOk.pos (h : SzOk S) : ∀ s ∈ S, 1 ≤ s := fun s hs => (h.each s hs).1
theorem rowR_rep (h : SzOk S) (a : Rep S N φ r) : rowR S N r = rowP S φ := by
  unfold rowR rowP
  apply List.map_congr_left
  intro n _
  exact a.2 _ (pnL_ptl S h.pos n).pnt
theorem rowR_app (h : Ok S M N) (hf : hasR N f) : rowR S (N ++ T) f = rowR S N f := by
  unfold rowR rowP
  apply List.map_congr_left
  intro n _
  exact sayR_app h (pnL_ptl S h.sz.pos n).pnt hf
/-- The same row, the same ref. -/
theorem rowR_inj (h : Ok S M N) (hf : hasR N f) (hg : hasR N g) (e : rowR S N f = rowR S N g) : f = g := by
  refine h.canon hf hg (fun p hp => ?_)
  have hL : PtL S ((List.range S.length).map fun i => ((p i : Nat) : Int)) := ⟨by simp, fun i hi => by
    have hi' : i < S.length := by simpa using hi
    rw [List.getD_eq_getElem?_getD, List.getElem?_eq_getElem hi]
    simp only [List.getElem_map, List.getElem_range, Option.getD_some]
    exact ⟨by omega, hp i hi'⟩⟩
  have hn := idx_lt S _ hL
  have e1 := congrArg (fun L => List.getD L (idx S ((List.range S.length).map fun i => ((p i : Nat) : Int))) false) e
  simp only [rowR] at e1
  rw [rowP_get hn, rowP_get hn, pnL_idx S _ hL] at e1
  have hag : ∀ j, 0 ≤ j → j < S.length → p j = ptf ((List.range S.length).map fun i => ((p i : Nat) : Int)) j := fun j _ hj => by
    unfold ptf
    rw [List.getD_eq_getElem?_getD, List.getElem?_eq_getElem (by simpa using hj)]
    simp
  have a1 := say_hang h _ f (Nat.le_refl _) hf 0 (by have := (h.lvl_le hf).1; omega) p _ hp hL.pnt hag
  have a2 := say_hang h _ g (Nat.le_refl _) hg 0 (by have := (h.lvl_le hg).1; omega) p _ hp hL.pnt hag
  simp only at a1 a2
  rw [a1, a2]
  exact e1
/-- A point with one class changed. -/
theorem ptf_set {L : List Int} {l c : Nat} (hl : l < L.length) : ptf (L.set l (c : Int)) = upd (ptf L) l c := by
  funext j
  unfold ptf
  by_cases e : j = l
  · subst e
    rw [upd_at, List.getD_eq_getElem?_getD, List.getElem?_set_self hl]
    simp
  · rw [upd_ne _ _ e, List.getD_eq_getElem?_getD, List.getElem?_set_ne (fun h => e h.symm), ← List.getD_eq_getElem?_getD]
theorem PtL.set {L : List Int} {l c : Nat} (h : PtL S L) (hc : (c : Int) < S.getD l 0) : PtL S (L.set l (c : Int)) := ⟨by rw [List.length_set]; exact h.len, fun i hi => by
  rw [List.length_set] at hi
  by_cases e : i = l
  · subst e
    rw [List.getD_eq_getElem?_getD (l := L.set i (c : Int)), List.getElem?_set_self hi]
    exact ⟨by simp, by simpa using hc⟩
  · rw [List.getD_eq_getElem?_getD (l := L.set l (c : Int)), List.getElem?_set_ne (fun h => e h.symm), ← List.getD_eq_getElem?_getD]
    exact h.each i hi⟩
end
end Go.Proofs.Ytaafeflbanoncaa
/-
  The table in memory; point by its contract. No condition.
-/
namespace Go.Proofs.Ytaafeflbanoncaa
open Go.RowKit Go.Lib Go.Maps

/-- A block of bools. -/
def BBk (w : World) (b : Nat) (L : List Bool) : Prop := ∃ cs, w.heap[b]? = some (.cells cs 4 (0, 0)) ∧ ∀ i, i < L.length → cs[i]? = some (.bool (L.getD i false))
theorem BBk.lt {w : World} {b : Nat} {L : List Bool} (h : BBk w b L) : b < w.heap.size := by
  obtain ⟨cs, h1, _⟩ := h
  exact lt_of_block h1
theorem BBk.kept {F : Nat → Prop} {w w' : World} {b : Nat} {L : List Bool} (h : BBk w b L) (hk : Kept F w w') (hF : ¬ F b) : BBk w' b L := by
  have hl := h.lt
  obtain ⟨cs, h1, h2⟩ := h
  exact ⟨cs, (hk.block b hl hF).trans h1, h2⟩
theorem BBk.below {w w' : World} {b : Nat} {L : List Bool} (h : BBk w b L) (hk : Below w.heap.size w w') : BBk w' b L := h.kept (F := fun _ => False) (Kept.of_below hk) (fun h => h)
theorem BBk.cell {w : World} {b : Nat} {L : List Bool} (h : BBk w b L) {i : Nat} (hi : i < L.length) : w.cell? ⟨b, i, none⟩ = some (.bool (L.getD i false)) := by
  obtain ⟨cs, h1, h2⟩ := h
  rw [cell_of_row w b i _ _ _ h1]
  exact h2 i hi
theorem BBk.at {w : World} {b : Nat} {L : List Bool} (h : BBk w b L) : BAt w (some ⟨b, 0, none⟩) L := .inr ⟨b, 0, rfl, h.lt, fun i hi => by rw [Nat.zero_add]; exact h.cell hi⟩
theorem own_bbk {w : World} {base : Nat} {v : Value} {L : List Bool} (h : w.ownsRow base 4 1 v L.length (bC L)) (h0 : 0 < L.length) : ∃ g cap, v = .slice (some ⟨g, 0, none⟩) L.length cap ∧ base ≤ g ∧ BBk w g L := by
  rcases h.2 with ⟨rfl, h1⟩ | ⟨g, cap, cur, rfl, hb, hh, h3, h4, h5, h6⟩
  · omega
  · refine ⟨g, cap, rfl, hb, cur, hh, fun i hi => ?_⟩
    have := congrArg (fun l => l[i]?) h6
    simp only [bC_get L hi] at this
    rw [← this]
    rw [Nat.mul_one, List.getElem?_take_of_lt hi, Array.getElem?_toList]
/-- The table's block. -/
def TBk (w : World) (tb : Nat) (S : List Int) (sb sc : Nat) (pts : Nat) (fv sv : Value) : Prop := w.heap[tb]? = some (.cells #[.slice (some ⟨sb, 0, none⟩) S.length sc, .int .i64 (pts : Int), fv, sv] 49 (0, 0)) ∧ ZBk w sb S
theorem TBk.cells {w : World} {tb : Nat} {S : List Int} {sb sc pts : Nat} {fv sv : Value} (h : TBk w tb S sb sc pts fv sv) : w.cell? ⟨tb, 0, none⟩ = some (.slice (some ⟨sb, 0, none⟩) S.length sc) ∧ w.cell? ⟨tb, 1, none⟩ = some (.int .i64 (pts : Int)) ∧ w.cell? ⟨tb, 2, none⟩ = some fv ∧ w.cell? ⟨tb, 3, none⟩ = some sv := by
  refine ⟨?_, ?_, ?_, ?_⟩ <;> (rw [cell_of_row w tb _ _ _ _ h.1]; rfl)
theorem TBk.below {w w' : World} {tb : Nat} {S : List Int} {sb sc pts : Nat} {fv sv : Value} (h : TBk w tb S sb sc pts fv sv) (x : Below w.heap.size w w') : TBk w' tb S sb sc pts fv sv := ⟨(x.block _ (lt_of_block h.1)).trans h.1, h.2.below x⟩
section
variable {w : World} {tb : Nat} {S : List Int} {sb sc pts : Nat} {fv sv : Value}
def PnL (S : List Int) (n : Nat) (w : World) (e : Ending) (w' : World) : Prop := ∃ g c, e = .returned (.slice (some ⟨g, 0, none⟩) S.length c) ∧ w.heap.size ≤ g ∧ ZBk w' g (pnL S n) ∧ Below w.heap.size w w'
set_option maxRecDepth 100000 in
set_option maxHeartbeats 2000000 in
theorem point_any {n : Nat} (h : TBk w tb S sb sc pts fv sv) (hS : SzOk S) (hn : n ≤ 2147483648) : Calls Try.prog 46 #[.pointer (some ⟨tb, 0, none⟩), .int .i64 (n : Int)] w fun e w' => PnL S n w e w' := by
  obtain ⟨i3, hi3, hz30, hz31, hz32⟩ := info_parts Try.info3
  have HH := hide h
  have HS := hide hS
  have hs12 := hS.le
  have hs1 := hS.ge
  clear h hS
  go_enter Try.func46, Try.ntmps46
  go_wp2
  go_loopw [5, 6, 1] (fun v x y wr => ∃ (k n' : Nat) (pre : List Int), k ≤ S.length ∧ n' ≤ 2147483648 ∧ x = .int .i64 k ∧ y = .int .i64 (n' : Int) ∧ Hid (pnL S n = pre ++ pnL (S.drop k) n' ∧ pre.length = k ∧ wr.ownsRow w.heap.size 3 1 v k (zC pre)) ∧ Hid (Below w.heap.size w wr)) (fun _ x _ _ => S.length - (RowKit.intOf x).toNat)
  case atStart => exact ⟨0, n, [], Nat.zero_le _, hn, rfl, rfl, ⟨by simp, rfl, World.ownsRow_nil _ _ _ _⟩, Below.refl _ _⟩
  case round =>
    obtain ⟨k, n', pre, hk, hn', rfl, rfl, I, HQ⟩ := hrel
    obtain ⟨ao, cp, rfl, _⟩ := own_shape I.out.2.2
    have T := HH.out.below HQ.out
    obtain ⟨t0, t1, t2, t3⟩ := T.cells
    by_cases hlt : k < S.length
    · have hlt' : (k : Int) < S.length := by omega
      have q0 := T.2.cell hlt
      have hsr := HS.out.each _ (getD_mem hlt)
      obtain ⟨s, hs⟩ : ∃ s : Nat, S.getD k 0 = (s : Int) := ⟨(S.getD k 0).toNat, by omega⟩
      rw [hs] at q0 hsr
      have hs0 : ¬ (s : Int) = 0 := by omega
      have hd : (n' : Int).tdiv (s : Int) = ((n' / s : Nat) : Int) := by rw [Int.tdiv_eq_ediv_of_nonneg (by omega)]; rfl
      have hr : (n' : Int).tmod (s : Int) = ((n' % s : Nat) : Int) := by rw [Int.tmod_eq_emod_of_nonneg (by omega)]; rfl
      have hdl : n' / s ≤ 2147483648 := Nat.le_trans (Nat.div_le_self _ _) hn'
      have NX : Hid (pnL S n = (pre ++ [((n' % s : Nat) : Int)]) ++ pnL (S.drop (k + 1)) (n' / s)) := by
        unfold Hid
        rw [I.out.1, List.drop_eq_getElem_cons hlt]
        have e : S[k] = (s : Int) := by rw [← hs, List.getD_eq_getElem?_getD, List.getElem?_eq_getElem hlt]; rfl
        rw [e]
        simp [pnL]
      have HSZ := hide HQ.out.size
      have HSK := hide hs
      have HWQ : Hid (wrap64 ((n' : Int) / (s : Int)) = ((n' / s : Nat) : Int)) := by
        have h1 : (n' : Int) / (s : Int) = ((n' / s : Nat) : Int) := rfl
        unfold Hid
        rw [h1]
        generalize n' / s = z at *
        unfold wrap64
        omega
      clear T hs hsr
      go_wp2_with (at_builtin; refine wpList_append_view rfl (.tmp 16) (.tmp 26) 22 rfl w.heap.size 3 i3 (.int .i64 0) 1 8 Try.underlying22 hi3 hz30 hz31 hz32 rfl (by decide) _ k (zC pre) rfl (own_below I.out.2.2 (al (Below.refl _ _) _)) ⟨wr.heap.size, 0, none⟩ 1 1 [.int .i64 ((n' % s : Nat) : Int)] rfl rfl (one_new wr _ _) (by simp [Value.oneCell']) (by decide) (by unfold maxLen; omega) (by omega) (Nat.le_trans HSZ.out (al (Below.refl _ wr) _).size) ?_; intro v4 w4 h1 h2; obtain ⟨ao4, cap4, hv4, _⟩ := own_shape h1; subst hv4; have H1 := hide h1; have H2 := hide (app_below (bt HQ.out (al (Below.refl _ _) _) (Nat.le_refl _)) (own_below I.out.2.2 (al (Below.refl _ _) _)) h2 (Nat.le_refl _)); have T4 := HH.out.below H2.out; obtain ⟨u0, u1, u2, u3⟩ := T4.cells; have p0 := T4.2.cell hlt; rw [HSK.out] at p0; clear h1 h2 T4)
      go_roundw
      case rel => exact ⟨k + 1, n' / s, pre ++ [((n' % s : Nat) : Int)], by omega, hdl, by go_num, by rw [HWQ.out], ⟨NX.out, by rw [List.length_append, I.out.2.1]; rfl, by rw [zC_snoc]; exact H1.out⟩, H2⟩
      case measure => simp [RowKit.intOf]; omega
    · have hlt' : ¬ (k : Int) < S.length := by omega
      obtain rfl : k = S.length := by omega
      have hp : pnL S n = pre := by rw [I.out.1, List.drop_length]; simp [pnL]
      have ho := I.out.2.2
      have hl := I.out.2.1
      rw [← hl] at ho
      obtain ⟨g, c2, hv, hg, hz⟩ := own_blk ho (by omega)
      have FIN : Hid (PnL S n w (.returned (.slice ao S.length cp)) wr) := by
        rw [hl] at hv
        rw [hv]
        exact ⟨g, c2, rfl, hg, by rw [hp]; exact hz, HQ.out⟩
      clear hp ho hl hv hg hz T
      go_wp2
      go_ret
      exact FIN.out
end
end Go.Proofs.Ytaafeflbanoncaa
