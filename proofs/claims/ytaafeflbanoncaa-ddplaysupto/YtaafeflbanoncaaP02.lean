/-
  What an operation of two refs comes to, in pure words: a ref that says of each point what is told, found class by class. Of no program: no condition.
-/
import Derived.Test.YtaafeflbanoncaaP01
import Derived.Test.YtaafeflbanoncaaProg
import Derived.WalkKit
import Derived.WalkLawsBesides
import Derived.Below
import Derived.OneCell
import Derived.Deep.QuietTactic
import Derived.BigQuiet
namespace Go.Proofs.Ytaafeflbanoncaa
open Go.RowKit

section
variable {S : List Int} {M : Int} {N N' T : List Nd} {p : Nat → Nat} {f g r lv : Int} {ks : List Int} {op : Bool → Bool → Bool} {q : (Nat → Nat) → (Nat → Nat)}
theorem hasR_app (h : hasR N f) : hasR (N ++ T) f := ⟨h.1, by have := h.2; rw [List.length_append]; omega⟩
theorem lvl_app (h : hasR N f) : lvl S (N ++ T) f = lvl S N f := by
  have e := lvl_take (S := S) (N := N ++ T) (i := N.length) (f := f) (by rw [List.take_left' rfl]; exact h)
  rw [List.take_left' rfl] at e
  exact e.symm
theorem lvl_at {i : Nat} (hi : N[i]? = some (lv, ks)) : lvl S N ((i : Int) + 2) = lv := by
  have hlt := at_lt hi
  unfold lvl
  rw [if_pos (by omega), List.getD_eq_getElem?_getD, show ((i : Int) + 2 - 2).toNat = i by omega, hi]
  rfl
theorem Ok.lvl_le (h : Ok S M N) (hf : hasR N f) : 0 ≤ lvl S N f ∧ lvl S N f ≤ (S.length : Int) := by
  by_cases h2 : 2 ≤ f
  · obtain ⟨l, ks, hn⟩ := h.ndAt h2 hf.2
    have := hn.lev
    have := hn.lt
    omega
  · rw [lvl_low h2]; omega
/-- A ref's level is at most the number of levels; a node's is below it. -/
theorem Ok.node_of_lvl (h : Ok S M N) (hf : hasR N f) {l : Nat} (hl : lvl S N f = (l : Int)) (hs : l < S.length) : 2 ≤ f ∧ ∃ ks, NdAt S N f l ks := by
  by_cases h2 : 2 ≤ f
  · obtain ⟨l', ks, hn⟩ := h.ndAt h2 hf.2
    have := hn.lev
    have e : l' = l := by omega
    subst e
    exact ⟨h2, ks, hn⟩
  · rw [lvl_low h2] at hl; omega
/-- Where a ref leads by a class of a level: itself, if it does not ask that level. -/
def kidR (S : List Int) (N : List Nd) (l : Nat) (f : Int) (c : Nat) : Int := if lvl S N f = (l : Int) then (N.getD (f - 2).toNat (0, [])).2.getD c 0 else f
theorem kidR_node {l c : Nat} (hn : NdAt S N f l ks) : kidR S N l f c = ks.getD c 0 := by
  unfold kidR
  have e : N.getD (f - 2).toNat (0, []) = ((l : Int), ks) := by rw [List.getD_eq_getElem?_getD, hn.at_]; rfl
  rw [if_pos hn.lev, e]
theorem kidR_self {l c : Nat} (hl : lvl S N f ≠ (l : Int)) : kidR S N l f c = f := by unfold kidR; rw [if_neg hl]
theorem kidR_app {l c : Nat} (h : Ok S M N) (hs : l < S.length) (hf : hasR N f) : kidR S (N ++ T) l f c = kidR S N l f c := by
  unfold kidR
  rw [lvl_app hf]
  by_cases hl : lvl S N f = (l : Int)
  · obtain ⟨h2, ks, hn⟩ := h.node_of_lvl hf hl hs
    rw [if_pos hl, if_pos hl]
    have hk : (f - 2).toNat < N.length := by have := hf.2; omega
    simp only [List.getD_eq_getElem?_getD]
    rw [List.getElem?_append_left hk]
  · rw [if_neg hl, if_neg hl]
theorem kidR_has {l c : Nat} (h : Ok S M N) (hs : l < S.length) (hf : hasR N f) (hl : (l : Int) ≤ lvl S N f) (hc : (c : Int) < S.getD l 0) : hasR N (kidR S N l f c) ∧ (l : Int) < lvl S N (kidR S N l f c) := by
  by_cases e : lvl S N f = (l : Int)
  · obtain ⟨h2, ks, hn⟩ := h.node_of_lvl hf e hs
    rw [kidR_node hn]
    have hl2 := hn.len
    obtain ⟨k0, k1, k2⟩ := hn.kid c (by omega)
    exact ⟨⟨k0, by have := hf.2; omega⟩, k2⟩
  · rw [kidR_self e]
    exact ⟨hf, by omega⟩
theorem kidR_say {l : Nat} (h : Ok S M N) (hs : l < S.length) (hf : hasR N f) (hp : Pnt S p) : sayR N p f = sayR N p (kidR S N l f (p l)) := by
  by_cases e : lvl S N f = (l : Int)
  · obtain ⟨h2, ks, hn⟩ := h.node_of_lvl hf e hs
    rw [kidR_node hn]
    exact hn.says h hp h2 hf.2
  · rw [kidR_self e]
theorem kidR_zero {l c : Nat} (hs : l < S.length) : kidR S N l 0 c = 0 := kidR_self (by rw [lvl_low (by omega)]; omega)
/-- What two refs come to: what is told of each point; no level above both. -/
structure PtOk (S : List Int) (N : List Nd) (op : Bool → Bool → Bool) (q : (Nat → Nat) → (Nat → Nat)) (f g r : Int) : Prop where
  has : hasR N r
  say : ∀ p, Pnt S p → sayR N p r = op (sayR N (q p) f) (sayR N (q p) g)
  lev : min (lvl S N f) (lvl S N g) ≤ lvl S N r
theorem PtOk.app (h : Ok S M N) (hq : ∀ p, Pnt S p → Pnt S (q p)) (hf : hasR N f) (hg : hasR N g) (k : PtOk S N op q f g r) : PtOk S (N ++ T) op q f g r :=
  ⟨hasR_app k.has, fun p hp => by rw [sayR_app h hp k.has, sayR_app h (hq p hp) hf, sayR_app h (hq p hp) hg]; exact k.say p hp, by rw [lvl_app hf, lvl_app hg, lvl_app k.has]; exact k.lev⟩
/-- The results by class may stand as a node. -/
theorem PtOk.may {l : Nat} (h : Ok S M N) (hs : l < S.length) (hf : hasR N f) (hg : hasR N g) (hm : min (lvl S N f) (lvl S N g) = (l : Int)) (hlen : (ks.length : Int) = S.getD l 0) (hk : ∀ c, c < ks.length → PtOk S N op q (kidR S N l f c) (kidR S N l g c) (ks.getD c 0)) : May S N (l : Int) ks := by
  refine ⟨by omega, by omega, by rw [Int.toNat_natCast]; exact hlen, fun x hx => ?_⟩
  obtain ⟨c, hc, rfl⟩ := List.getElem_of_mem hx
  have e : ks.getD c 0 = ks[c] := by rw [List.getD_eq_getElem?_getD, List.getElem?_eq_getElem hc]; rfl
  have k := hk c hc
  rw [e] at k
  have h1 := (kidR_has (c := c) h hs hf (by omega) (by omega)).2
  have h2 := (kidR_has (c := c) h hs hg (by omega) (by omega)).2
  have h3 := k.lev
  exact ⟨k.has, by omega⟩
/-- The node that is made of them is what both come to. -/
theorem PtOk.node {l : Nat} (h : Ok S M N) (hq : ∀ p, Pnt S p → Pnt S (q p)) (hs : l < S.length) (hf : hasR N f) (hg : hasR N g) (hm : min (lvl S N f) (lvl S N g) = (l : Int)) (hql : ∀ p, q p l = p l) (hlen : (ks.length : Int) = S.getD l 0) (hk : ∀ c, c < ks.length → PtOk S N op q (kidR S N l f c) (kidR S N l g c) (ks.getD c 0))
    (k : MkP S M N (l : Int) ks r 0 N') : PtOk S N' op q f g r ∧ ∃ T, N' = N ++ T := by
  have hT : ∃ T, N' = N ++ T := by
    rcases k with ⟨_, _, h1, _⟩ | ⟨_, _, _, _, rfl⟩ | ⟨_, _, _, _, rfl⟩ | ⟨_, _, _, _, _, h1, _⟩ | ⟨_, _, _, _, _, _, rfl⟩
    · omega
    · exact ⟨[], by simp⟩
    · exact ⟨[], by simp⟩
    · omega
    · exact ⟨_, rfl⟩
  refine ⟨⟨?_, fun p hp => ?_, ?_⟩, hT⟩
  · exact (MkP.says h (Pnt.zero h.sz) k).1
  · obtain ⟨_, e, _⟩ := MkP.says h hp k
    rw [e, Int.toNat_natCast]
    have hc : p l < ks.length := by have := hp l hs; omega
    rw [(hk _ hc).say p hp]
    obtain ⟨T, rfl⟩ := hT
    rw [sayR_app h (hq p hp) hf, sayR_app h (hq p hp) hg, kidR_say h hs hf (hq p hp), kidR_say h hs hg (hq p hp), hql p]
  · have hmay := PtOk.may h hs hf hg hm hlen hk
    have hpos : 0 < ks.length := by
      have h1 := Pnt.zero h.sz l hs
      omega
    rcases k with ⟨_, _, h1, _⟩ | ⟨m, o, rfl, _, rfl⟩ | ⟨m, o, ⟨i, hi, rfl⟩, _, rfl⟩ | ⟨_, _, _, _, _, h1, _⟩ | ⟨m, o, hn, hl, rfl, _, rfl⟩
    · omega
    · have hmem : ks.getD 0 0 ∈ ks := by
        rw [List.getD_eq_getElem?_getD, List.getElem?_eq_getElem hpos]
        exact List.getElem_mem _
      have := (m.kid _ hmem).2
      omega
    · rw [hm, lvl_at hi]
      exact Int.le_refl _
    · omega
    · rw [lvl_app hf, lvl_app hg, hm, lvl_at (lv := (l : Int)) (ks := ks) (i := N.length) (by simp)]
      exact Int.le_refl _
/-- What is known of two refs without a look at their kids. -/
structure KnP (S : List Int) (N : List Nd) (op : Bool → Bool → Bool) (q : (Nat → Nat) → (Nat → Nat)) (f g r : Int) (is : Bool) : Prop where
  yes : is = true → PtOk S N op q f g r
  no : is = false → min (lvl S N f) (lvl S N g) < (S.length : Int) ∧ ∀ p, q p (min (lvl S N f) (lvl S N g)).toNat = p (min (lvl S N f) (lvl S N g)).toNat
end
end Go.Proofs.Ytaafeflbanoncaa
/-
  Nodes of diagrams, each once, those below ahead of it. In pure words; of no program: no condition.
-/
namespace Go.Proofs.Ytaafeflbanoncaa
open Go.RowKit

/-- What has been met, by refs, and the nodes that ended. -/
abbrev MetO := List Bool × List Int
def kidsL (N : List Nd) (f : Int) : List Int := (N.getD (f - 2).toNat (0, [])).2
def thrF (N : List Nd) : Nat → Int → MetO → MetO
  | 0, _, s => s
  | n + 1, f, s => if f < 2 ∨ s.1.getD f.toNat false = true then s else
      (((kidsL N f).foldl (fun s k => thrF N n k s) (s.1.set f.toNat true, s.2)).1, ((kidsL N f).foldl (fun s k => thrF N n k s) (s.1.set f.toNat true, s.2)).2 ++ [f])
/-- Nodes of some roots. -/
def nodF (N : List Nd) (A : List Int) : MetO := A.foldl (fun s f => thrF N (N.length + 2) f s) (List.replicate (N.length + 2) false, [])
structure MetOk (n j : Nat) (s : MetO) : Prop where
  len : s.1.length = n
  cnt : s.2.length + j ≤ s.1.count true
theorem count_set {B : List Bool} {k : Nat} (hk : k < B.length) (h : B.getD k false = false) : (B.set k true).count true = B.count true + 1 := by
  induction B generalizing k with
  | nil => cases hk
  | cons b t ih =>
    cases k with
    | zero =>
      simp only [List.getD_cons_zero] at h
      subst h
      simp
    | succ k =>
      simp only [List.getD_cons_succ] at h
      have := ih (k := k) (by simpa using hk) h
      simp only [List.set_cons_succ, List.count_cons, this]
      omega
theorem count_le (B : List Bool) : B.count true ≤ B.length := List.count_le_length
theorem MetOk.set {n j : Nat} {s : MetO} {k : Nat} (h : MetOk n j s) (hk : k < n) (hm : s.1.getD k false = false) : MetOk n (j + 1) (s.1.set k true, s.2) :=
  ⟨by rw [List.length_set]; exact h.len, by rw [count_set (by rw [h.len]; exact hk) hm]; have := h.cnt; show s.2.length + (j + 1) ≤ s.1.count true + 1; omega⟩
theorem MetOk.push {n j : Nat} {s : MetO} {f : Int} (h : MetOk n (j + 1) s) : MetOk n j (s.1, s.2 ++ [f]) := ⟨h.len, by rw [List.length_append]; have := h.cnt; show s.2.length + 1 + j ≤ s.1.count true; omega⟩
theorem thr_ok {S : List Int} {M : Int} {N : List Nd} (ok : Ok S M N) : ∀ (n : Nat) (f : Int) (j : Nat) (s : MetO), hasR N f → MetOk (N.length + 2) j s → MetOk (N.length + 2) j (thrF N n f s) := by
  intro n
  induction n with
  | zero => intro f j s _ h; exact h
  | succ n ih =>
    intro f j s hf h
    unfold thrF
    by_cases hc : f < 2 ∨ s.1.getD f.toNat false = true
    · rw [if_pos hc]; exact h
    · rw [if_neg hc]
      have h2 : 2 ≤ f := by omega
      have hm : s.1.getD f.toNat false = false := Bool.eq_false_iff.2 (fun e => hc (.inr e))
      obtain ⟨l, ks, hn⟩ := ok.ndAt h2 hf.2
      have hk : kidsL N f = ks := by unfold kidsL; rw [List.getD_eq_getElem?_getD, hn.at_]; rfl
      have h0 := h.set (k := f.toNat) (by have := hf.2; omega) hm
      rw [hk]
      have hfold : ∀ (t : List Int) (s : MetO), (∀ k ∈ t, hasR N k) → MetOk (N.length + 2) (j + 1) s → MetOk (N.length + 2) (j + 1) (t.foldl (fun s k => thrF N n k s) s) := by
        intro t
        induction t with
        | nil => intro s _ h; exact h
        | cons k t iht => intro s hk h; exact iht _ (fun y hy => hk y (by simp [hy])) (ih k _ s (hk k (by simp)) h)
      refine MetOk.push (hfold ks _ (fun k hk => ?_) h0)
      obtain ⟨i, hi, rfl⟩ := List.getElem_of_mem hk
      have := hn.kid i hi
      rw [List.getD_eq_getElem?_getD, List.getElem?_eq_getElem hi] at this
      exact ⟨this.1, by have h3 := this.2.1; have h4 := hf.2; simp only [Option.getD_some] at h3; omega⟩
end Go.Proofs.Ytaafeflbanoncaa
/-
  What a call may have turned; the walk of a region, shut. No condition.
-/
namespace Go.Proofs.Ytaafeflbanoncaa
open Go.RowKit Go.Lib

/-- All that was there is as it was, but for the blocks of F. -/
structure Kept (F : Nat → Prop) (w w' : World) : Prop where
  os : w'.os = w.os
  tape : w'.tape = w.tape
  output : w'.output = w.output
  size : w.heap.size ≤ w'.heap.size
  block : ∀ k, k < w.heap.size → ¬ F k → w'.heap[k]? = w.heap[k]?

theorem Kept.refl (F : Nat → Prop) (w : World) : Kept F w w := ⟨rfl, rfl, rfl, Nat.le_refl _, fun _ _ _ => rfl⟩
theorem Kept.trans {F : Nat → Prop} {a b c : World} (h : Kept F a b) (k : Kept F b c) : Kept F a c :=
  ⟨k.os.trans h.os, k.tape.trans h.tape, k.output.trans h.output, Nat.le_trans h.size k.size, fun i hi hf => (k.block i (Nat.lt_of_lt_of_le hi h.size) hf).trans (h.block i hi hf)⟩
theorem Kept.trans_new {F G : Nat → Prop} {a b c : World} (h : Kept F a b) (k : Kept G b c) (hG : ∀ i, i < a.heap.size → G i → F i) : Kept F a c :=
  ⟨k.os.trans h.os, k.tape.trans h.tape, k.output.trans h.output, Nat.le_trans h.size k.size, fun i hi hf => (k.block i (Nat.lt_of_lt_of_le hi h.size) (fun hg => hf (hG i hi hg))).trans (h.block i hi hf)⟩
theorem Kept.mono {F G : Nat → Prop} {a b : World} (h : Kept F a b) (hG : ∀ i, F i → G i) : Kept G a b :=
  ⟨h.os, h.tape, h.output, h.size, fun i hi hf => h.block i hi (fun hg => hf (hG i hg))⟩
theorem Kept.of_below {F : Nat → Prop} {a b : World} (h : Below a.heap.size a b) : Kept F a b :=
  ⟨h.os, h.tape, h.output, h.size, fun i hi _ => h.block i hi⟩
theorem Kept.below {F : Nat → Prop} {B : Nat} {a b : World} (h : Kept F a b) (hB : B ≤ a.heap.size) (hF : ∀ i, F i → B ≤ i) : Below B a b :=
  ⟨h.os, h.tape, h.output, h.size, fun i hi => h.block i (by omega) (fun hf => by have := hF i hf; omega)⟩
theorem Kept.setCell {F : Nat → Prop} {a w : World} (h : Kept F a w) {p : Addr} (hp : F p.block) (u : Value) : Kept F a (w.setCell p u) :=
  h.trans ⟨rfl, rfl, rfl, by simp [World.setCell], fun k _ hf => Below.heap_setCell _ _ _ _ (fun e => hf (e ▸ hp))⟩
theorem Kept.drew {F : Nat → Prop} {a w : World} (h : Kept F a w) : Kept F a w.drew := ⟨h.os, h.tape, h.output, h.size, h.block⟩
theorem Kept.grown {F : Nat → Prop} {a w w' : World} {row : Option Nat} (h : Kept F a w) (hg : w.grownBy w' row) (hr : ∀ k, row = some k → F k) : Kept F a w' :=
  h.trans ⟨hg.os, hg.tape, hg.output, hg.size, fun k hk hf => hg.block k hk (fun e => hf (hr k e.symm))⟩
theorem Kept.cell {F : Nat → Prop} {w w' : World} (h : Kept F w w') {p : Addr} (hp : p.block < w.heap.size) (hf : ¬ F p.block) : w'.cell? p = w.cell? p := World.cell?_of_block (w := w) (h.block p.block hp hf)

section
variable {P : Program} {ops : Array Oper} {C : World → Prop} {Q : Act → Prop}
/-- The walk of a region in its text's order, shut. -/
structure QW (P : Program) (ops : Array Oper) (C : World → Prop) (Q : Act → Prop) (l : List Oper) (a : Act) : Prop where
  out : wpQuiet P ops C Q l a
theorem QW.skip {o : Oper} {rest : List Oper} {a : Act} (hw : Region.wanted o (yielded ops a.tmps) = false) (h : QW P ops C Q rest (a.put o.dst undef)) : QW P ops C Q (o :: rest) a :=
  ⟨wpQuiet_step fun K hK => by rw [hw]; exact hK _ h.out⟩
theorem QW.take {o : Oper} {rest : List Oper} {a : Act} (hw : Region.wanted o (yielded ops a.tmps) = true) (h : ∃ v, (∀ w, C w → o.quietAt P a C w v) ∧ QW P ops C Q rest (a.put o.dst v)) : QW P ops C Q (o :: rest) a :=
  ⟨wpQuiet_step fun K hK => by rw [hw]; obtain ⟨v, h1, h2⟩ := h; exact ⟨v, h1, hK _ h2.out⟩⟩
theorem QW.nil {a : Act} (h : Q a) : QW P ops C Q [] a := ⟨wpQuiet_nil h⟩
end
end Go.Proofs.Ytaafeflbanoncaa
