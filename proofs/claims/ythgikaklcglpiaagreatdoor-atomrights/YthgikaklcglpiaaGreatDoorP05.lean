/-
  Lists of spans as they lie in memory; what a call may have turned; bounded and Right by their contracts. No condition but that a list is no longer than a process can hold.
-/
import Derived.Test.YthgikaklcglpiaaGreatDoorProg
import Derived.WalkKit
import Derived.WalkLawsBesides
import Derived.Below
import Derived.OneCell
import Derived.Deep.QuietTactic
import Derived.BigQuiet
import Derived.Test.YthgikaklcglpiaaGreatDoorP04
import Derived.Lib.SliceRun
import Derived.Laws.OwnMore
import Derived.Maps.AppendAt
import Derived.Deep.RegionHeld3
import Derived.OwnWalk
import Derived.ArgAppend
namespace Go.Proofs.YthgikaklcglpiaaGreatDoor.L9
open Go.RowKit Go.Lib

/-- All that was there is as it was, but for the blocks of F. -/
structure Kept (F : Nat → Prop) (w w' : World) : Prop where
  os : w'.os = w.os
  tape : w'.tape = w.tape
  output : w'.output = w.output
  size : w.heap.size ≤ w'.heap.size
  block : ∀ k, k < w.heap.size → ¬ F k → w'.heap[k]? = w.heap[k]?

theorem Kept.refl (F : Nat → Prop) (w : World) : Kept F w w := ⟨rfl, rfl, rfl, Nat.le_refl _, fun _ _ _ => rfl⟩
theorem Kept.trans {F : Nat → Prop} {a b c : World} (h : Kept F a b) (k : Kept F b c) : Kept F a c :=
  ⟨k.os.trans h.os, k.tape.trans h.tape, k.output.trans h.output, Nat.le_trans h.size k.size, fun i hi hf => (k.block i (Nat.lt_of_lt_of_le hi h.size) hf).trans (h.block i hi hf)⟩
theorem Kept.trans_new {F G : Nat → Prop} {a b c : World} (h : Kept F a b) (k : Kept G b c) (hG : ∀ i, i < a.heap.size → G i → F i) : Kept F a c :=
  ⟨k.os.trans h.os, k.tape.trans h.tape, k.output.trans h.output, Nat.le_trans h.size k.size, fun i hi hf => (k.block i (Nat.lt_of_lt_of_le hi h.size) (fun hg => hf (hG i hi hg))).trans (h.block i hi hf)⟩
theorem Kept.mono {F G : Nat → Prop} {a b : World} (h : Kept F a b) (hG : ∀ i, F i → G i) : Kept G a b :=
  ⟨h.os, h.tape, h.output, h.size, fun i hi hf => h.block i hi (fun hg => hf (hG i hg))⟩
theorem Kept.of_below {F : Nat → Prop} {a b : World} (h : Below a.heap.size a b) : Kept F a b :=
  ⟨h.os, h.tape, h.output, h.size, fun i hi _ => h.block i hi⟩
theorem Kept.below {F : Nat → Prop} {B : Nat} {a b : World} (h : Kept F a b) (hB : B ≤ a.heap.size) (hF : ∀ i, F i → B ≤ i) : Below B a b :=
  ⟨h.os, h.tape, h.output, h.size, fun i hi => h.block i (by omega) (fun hf => by have := hF i hf; omega)⟩
theorem Kept.setCell {F : Nat → Prop} {a w : World} (h : Kept F a w) {p : Addr} (hp : F p.block) (u : Value) : Kept F a (w.setCell p u) :=
  h.trans ⟨rfl, rfl, rfl, by simp [World.setCell], fun k _ hf => Below.heap_setCell _ _ _ _ (fun e => hf (e ▸ hp))⟩
theorem Kept.drew {F : Nat → Prop} {a w : World} (h : Kept F a w) : Kept F a w.drew := ⟨h.os, h.tape, h.output, h.size, h.block⟩
theorem Kept.grown {F : Nat → Prop} {a w w' : World} {row : Option Nat} (h : Kept F a w) (hg : w.grownBy w' row) (hr : ∀ k, row = some k → F k) : Kept F a w' :=
  h.trans ⟨hg.os, hg.tape, hg.output, hg.size, fun k hk hf => hg.block k hk (fun e => hf (hr k e.symm))⟩
theorem Kept.cell {F : Nat → Prop} {w w' : World} (h : Kept F w w') {p : Addr} (hp : p.block < w.heap.size) (hf : ¬ F p.block) : w'.cell? p = w.cell? p := World.cell?_of_block (w := w) (h.block p.block hp hf)

section
variable {P : Program} {ops : Array Oper} {C : World → Prop} {Q : Act → Prop}
/-- The walk of a region in its text's order, shut. -/
structure QW (P : Program) (ops : Array Oper) (C : World → Prop) (Q : Act → Prop) (l : List Oper) (a : Act) : Prop where
  out : wpQuiet P ops C Q l a
theorem QW.take {o : Oper} {rest : List Oper} {a : Act} (hw : Region.wanted o (yielded ops a.tmps) = true) (h : ∃ v, (∀ w, C w → o.quietAt P a C w v) ∧ QW P ops C Q rest (a.put o.dst v)) : QW P ops C Q (o :: rest) a :=
  ⟨wpQuiet_step fun K hK => by rw [hw]; obtain ⟨v, h1, h2⟩ := h; exact ⟨v, h1, hK _ h2.out⟩⟩
theorem QW.nil {a : Act} (h : Q a) : QW P ops C Q [] a := ⟨wpQuiet_nil h⟩
end
end Go.Proofs.YthgikaklcglpiaaGreatDoor.L9
/-
  Lists that came out, each in a block of its own: all marked, then grown one by one; what was looked at stays. Of no program: no condition.
-/
namespace Go.Proofs.YthgikaklcglpiaaGreatDoor.L9
open Go.RowKit Go.Lib

/-- A list: its value, its length. -/
structure LD where
  v : Value
  n : Nat
/-- n marks, cell by cell. -/
def rep (mc : Nat → List Value) (i n : Nat) : List Value := (List.replicate n (mc i)).flatten
theorem own_below {w w' : World} {base size n : Nat} {e : TypeId} {v : Value} {xs : List Value} (h : w.ownsRow base e size v n xs) (hb : Below w.heap.size w w') : w'.ownsRow base e size v n xs := by
  refine ⟨h.1, ?_⟩
  rcases h.2 with hn | ⟨g, cap, cur, rfl, hb', hg, r⟩
  · exact .inl hn
  · exact .inr ⟨g, cap, cur, rfl, hb', (hb.block g (lt_of_block hg)).trans hg, r⟩
theorem own_kept {F : Nat → Prop} {w w' : World} {base size n : Nat} {e : TypeId} {v : Value} {xs : List Value} (h : w.ownsRow base e size v n xs) (hk : Kept F w w') (hF : ∀ k, v.ownBlock = some k → ¬ F k) : w'.ownsRow base e size v n xs := by
  refine ⟨h.1, ?_⟩
  rcases h.2 with hn | ⟨g, cap, cur, rfl, hb', hg, r⟩
  · exact .inl hn
  · exact .inr ⟨g, cap, cur, rfl, hb', (hk.block g (lt_of_block hg) (hF g rfl)).trans hg, r⟩
theorem own_mono {w : World} {base base' size n : Nat} {e : TypeId} {v : Value} {xs : List Value} (h : w.ownsRow base e size v n xs) (hb : base' ≤ base) : w.ownsRow base' e size v n xs := by
  refine ⟨h.1, ?_⟩
  rcases h.2 with hn | ⟨g, cap, cur, rfl, hb', r⟩
  · exact .inl hn
  · exact .inr ⟨g, cap, cur, rfl, Nat.le_trans hb hb', r⟩
theorem kept_of_grown {w w' : World} {r : Option Nat} (h : w.grownBy w' r) : Kept (fun k => r = some k) w w' := (Kept.refl _ _).grown h (fun _ hk => hk)
theorem below_of_grown {w w' : World} (h : w.grownBy w' none) : Below w.heap.size w w' := (Below.refl _ _).grown h (Nat.le_refl _) (fun k hk => by cases hk)

/-- What an append has done: in its place, or nothing turned and all new. -/
def AppAt (w w' : World) (v v' : Value) : Prop := (∃ g, v.ownBlock = some g ∧ v'.ownBlock = some g ∧ w.grownBy w' (some g)) ∨ (w.grownBy w' none ∧ ∀ k, v'.ownBlock = some k → w.heap.size ≤ k)
theorem wpList_append_view {P : Program} {w : World} {ops : Array Oper} {rest : List Oper} {o : Oper} {a : Act} {Q : Exit → Act → World → Prop} (hgd : o.guard = none) (s x : Operand) (t : TypeId)
    (ho : o.op = .call { callee := .builtin .append, args := #[s, x], argTypes := #[t, t] })
    (base : Nat) (e : TypeId) (i : TypeInfo) (z : Value) (size bytes : Nat) (ht : P.underlying t = some (.slice e)) (hi : P.info? e = some i) (hz : i.zero = some z)
    (hsize : i.size = size) (hby : i.bytes = bytes) (hzs : z.cells.size = size) (hsz : 0 < size)
    (v : Value) (n : Nat) (xs : List Value) (hs : a.eval s = v) (hown : w.ownsRow base e size v n xs)
    (ad : Addr) (m c : Nat) (news : List Value) (hx : a.eval x = .slice (some ad) m c) (hl : news.length = m * size) (hnews : ∀ j u, news[j]? = some u → w.cell? (ad.add j) = some u) (h1 : ∀ u ∈ news, u.oneCell' = true)
    (hm : 0 < m) (h63 : n + m ≤ maxLen) (hbytes : (n + m) * bytes ≤ 140737488355328) (hbase : base ≤ w.heap.size)
    (h : ∀ v' w', w'.ownsRow base e size v' (n + m) (xs ++ news) → AppAt w w' v v' → wpList P ops Q rest (a.put o.dst v') w') :
    wpList P ops Q (o :: rest) a w := by
  rcases hown.2 with ⟨rfl, rfl⟩ | ⟨g, cap, cur, rfl, hb, hg, hnc, hcm, hcs, htake⟩
  · have hx0 : xs = [] := List.eq_nil_of_length_eq_zero (by simpa using hown.1)
    subst hx0
    refine wpList_append_grows w hgd s x t ho e i z size bytes ht hi hz hsize hby hzs hsz none 0 0 [] hs (fun _ => ⟨rfl, rfl⟩) (by simp) (fun b hb => by cases hb) ad m c news hx hl hnews h1 (by omega) h63 hbytes ?_
    intro v' w' r1 r2
    exact h v' w' (own_mono r1 hbase) (.inr ⟨r2, fun k hk => (World.ownsRow.lt r1 k hk).1⟩)
  · by_cases hr : n + m ≤ cap
    · refine wpList_append_fits w hgd s x t ho base e i size ht hi hsize g n cap xs hs hown ad m c news hx hl hnews h1 hr ?_
      intro w' r1 r2
      exact h _ w' r1 (.inl ⟨g, rfl, rfl, r2⟩)
    · refine wpList_append_grows w hgd s x t ho e i z size bytes ht hi hz hsize hby hzs hsz (some ⟨g, 0, none⟩) n cap xs hs (fun h => by cases h) hown.1 (fun b hb => by cases hb; exact hown.cells (g := g) rfl) ad m c news hx hl hnews h1 (by omega) h63 hbytes ?_
      intro v' w' r1 r2
      exact h v' w' (own_mono r1 hbase) (.inr ⟨r2, fun k hk => (World.ownsRow.lt r1 k hk).1⟩)

/-- A view that reads n marks. -/
structure Vw (T : TypeId) (sz : Nat) (mc : Nat → List Value) (w : World) (v : Value) (n i : Nat) : Prop where
  shape : ∃ ao cap, v = .slice ao n cap ∧ (n = 0 ∨ ∃ g, ao = some ⟨g, 0, none⟩ ∧ ∀ j, j < n * sz → w.cell? ⟨g, j, none⟩ = (mc i)[j % sz]?)
  ty : ∀ k, v.ownBlock = some k → ∃ cs, w.heap[k]? = some (.cells cs T (0, 0))
  le : n ≤ maxLen
theorem Vw.lt {T : TypeId} {sz : Nat} {mc : Nat → List Value} {w : World} {v : Value} {n i : Nat} (h : Vw T sz mc w v n i) (k : Nat) (hk : v.ownBlock = some k) : k < w.heap.size := by
  obtain ⟨cs, h⟩ := h.ty k hk
  exact lt_of_block h
theorem Vw.kept {T : TypeId} {sz : Nat} {mc : Nat → List Value} {F : Nat → Prop} {w w' : World} {v : Value} {n i : Nat} (h : Vw T sz mc w v n i) (hk : Kept F w w') (hF : ∀ k, v.ownBlock = some k → ¬ F k) : Vw T sz mc w' v n i := by
  refine ⟨?_, fun k hb => ?_, h.le⟩
  · obtain ⟨ao, cap, rfl, h0 | ⟨g, rfl, hc⟩⟩ := h.shape
    · exact ⟨ao, cap, rfl, .inl h0⟩
    · exact ⟨_, cap, rfl, .inr ⟨g, rfl, fun j hj => (hk.cell (p := ⟨g, j, none⟩) (h.lt g rfl) (hF g rfl)).trans (hc j hj)⟩⟩
  · obtain ⟨cs, h3⟩ := h.ty k hb
    exact ⟨cs, (hk.block k (lt_of_block h3) (hF k hb)).trans h3⟩
theorem Vw.below {T : TypeId} {sz : Nat} {mc : Nat → List Value} {w w' : World} {v : Value} {n i : Nat} (h : Vw T sz mc w v n i) (hb : Below w.heap.size w w') : Vw T sz mc w' v n i :=
  h.kept (F := fun _ => False) (Kept.of_below hb) (fun _ _ h => h)
theorem own_ty {w : World} {base size n : Nat} {e : TypeId} {v : Value} {xs : List Value} (h : w.ownsRow base e size v n xs) (k : Nat) (hk : v.ownBlock = some k) : ∃ cs, w.heap[k]? = some (.cells cs e (0, 0)) := by
  rcases h.2 with ⟨rfl, hn⟩ | ⟨g, cap, cur, rfl, hb, hg, r⟩
  · cases hk
  · cases hk
    exact ⟨cur, hg⟩
/-- What is owned is a slice. -/
theorem own_shape {w : World} {base size n : Nat} {e : TypeId} {v : Value} {xs : List Value} (h : w.ownsRow base e size v n xs) : ∃ ao cap, v = .slice ao n cap ∧ (0 < n → ∃ g, ao = some ⟨g, 0, none⟩) := by
  rcases h.2 with ⟨rfl, hn⟩ | ⟨g, cap, cur, rfl, hb, hg, r⟩
  · exact ⟨none, 0, by rw [hn], fun h => by omega⟩
  · exact ⟨_, cap, rfl, fun _ => ⟨g, rfl⟩⟩
/-- Some list from the i-th on lies there. -/
def FutL (D : List LD) (i k : Nat) : Prop := ∃ i', ∃ h : i' < D.length, i ≤ i' ∧ (D[i']).v.ownBlock = some k
def ApartL (D : List LD) : Prop := D.Pairwise (fun d e => ∀ k, d.v.ownBlock = some k → ¬ e.v.ownBlock = some k)
theorem ApartL.ne {D : List LD} (h : ApartL D) {i j k : Nat} (hi : i < D.length) (hj : j < D.length) (hne : i ≠ j) (h1 : (D[i]).v.ownBlock = some k) : ¬ (D[j]).v.ownBlock = some k := fun h2 => by
  have hp := List.pairwise_iff_getElem.1 h
  rcases Nat.lt_or_gt_of_ne hne with h3 | h3
  · exact hp i j hi hj h3 k h1 h2
  · exact hp j i hj hi h3 k h2 h1

section
variable {TS T : TypeId} {sz : Nat} {mc : Nat → List Value}

/-- The lists as they lie, X i the cells of the i-th. -/
structure LsAt (TS T : TypeId) (sz : Nat) (w : World) (base : Nat) (l : Value) (D : List LD) (X : Nat → List Value) : Prop where
  row : w.ownsRow base TS 1 l D.length (D.map LD.v)
  each : ∀ i (h : i < D.length), w.ownsRow base T sz (D[i]).v (D[i]).n (X i)
  apart : ApartL D
theorem LsAt.below {w w' : World} {base : Nat} {l : Value} {D : List LD} {X : Nat → List Value} (h : LsAt TS T sz w base l D X) (hb : Below w.heap.size w w') : LsAt TS T sz w' base l D X :=
  ⟨own_below h.row hb, fun i hi => own_below (h.each i hi) hb, h.apart⟩
/-- Between two lists: i have been grown, and looked at six times each. -/
structure GrO (TS T : TypeId) (sz : Nat) (mc : Nat → List Value) (w : World) (base : Nat) (l o : Value) (D : List LD) (A : List LD) (i : Nat) : Prop where
  row : w.ownsRow base TS 1 l D.length (D.map LD.v)
  all : w.ownsRow base TS 1 o A.length (A.map LD.v)
  ol : ∀ k, o.ownBlock = some k → ¬ l.ownBlock = some k
  len : A.length = 6 * i
  views : ∀ j (hj : j < A.length), Vw T sz mc w (A[j]).v (A[j]).n (j / 6) ∧ ∀ k, (A[j]).v.ownBlock = some k → ¬ FutL D i k
  lists : ∀ i' (h : i' < D.length), i ≤ i' → w.ownsRow base T sz (D[i']).v (D[i']).n (rep mc i' (D[i']).n)
  apart : ApartL D
/-- Within the i-th: x is what it has grown to. -/
structure Gr (TS T : TypeId) (sz : Nat) (mc : Nat → List Value) (w : World) (base : Nat) (l o : Value) (D : List LD) (A : List LD) (i q : Nat) (x : Value) (nx : Nat) : Prop where
  row : w.ownsRow base TS 1 l D.length (D.map LD.v)
  all : w.ownsRow base TS 1 o A.length (A.map LD.v)
  ol : ∀ k, o.ownBlock = some k → ¬ l.ownBlock = some k
  len : A.length = 6 * i + q
  views : ∀ j (hj : j < A.length), Vw T sz mc w (A[j]).v (A[j]).n (j / 6) ∧ ∀ k, (A[j]).v.ownBlock = some k → ¬ FutL D (i + 1) k ∧ (x.ownBlock = some k → j / 6 = i ∧ (A[j]).n ≤ nx)
  own : w.ownsRow base T sz x nx (rep mc i nx)
  xf : ∀ k, x.ownBlock = some k → ¬ FutL D (i + 1) k
  lists : ∀ i' (h : i' < D.length), i + 1 ≤ i' → w.ownsRow base T sz (D[i']).v (D[i']).n (rep mc i' (D[i']).n)
  apart : ApartL D

theorem GrO.below {w w' : World} {base : Nat} {l o : Value} {D A : List LD} {i : Nat} (h : GrO TS T sz mc w base l o D A i) (hb : Below w.heap.size w w') : GrO TS T sz mc w' base l o D A i :=
  ⟨own_below h.row hb, own_below h.all hb, h.ol, h.len, fun j hj => ⟨(h.views j hj).1.below hb, (h.views j hj).2⟩, fun i' h1 h2 => own_below (h.lists i' h1 h2) hb, h.apart⟩
theorem Gr.below {w w' : World} {base : Nat} {l o : Value} {D A : List LD} {i q : Nat} {x : Value} {nx : Nat} (h : Gr TS T sz mc w base l o D A i q x nx) (hb : Below w.heap.size w w') : Gr TS T sz mc w' base l o D A i q x nx :=
  ⟨own_below h.row hb, own_below h.all hb, h.ol, h.len, fun j hj => ⟨(h.views j hj).1.below hb, (h.views j hj).2⟩, own_below h.own hb, h.xf, fun i' h1 h2 => own_below (h.lists i' h1 h2) hb, h.apart⟩
theorem GrO.enter {w : World} {base : Nat} {l o : Value} {D A : List LD} {i : Nat} (h : GrO TS T sz mc w base l o D A i) (hi : i < D.length) : Gr TS T sz mc w base l o D A i 0 (D[i]).v (D[i]).n := by
  refine ⟨h.row, h.all, h.ol, h.len, fun j hj => ⟨(h.views j hj).1, fun k hk => ⟨fun ⟨i', h1, h2, h3⟩ => (h.views j hj).2 k hk ⟨i', h1, by omega, h3⟩, fun hx => ?_⟩⟩, h.lists i hi (Nat.le_refl _), fun k hk => ?_, fun i' h1 h2 => h.lists i' h1 (by omega), h.apart⟩
  · exact absurd ⟨i, hi, Nat.le_refl _, hx⟩ ((h.views j hj).2 k hk)
  · rintro ⟨i', h1, h2, h3⟩
    exact h.apart.ne hi h1 (by omega) hk h3
end
end Go.Proofs.YthgikaklcglpiaaGreatDoor.L9
/-
  Lists that came out, each in a block of its own: all marked, then grown one by one, each looked at K times; what was looked at stays. Of no program: no condition.
-/

namespace Go.Proofs.YthgikaklcglpiaaGreatDoor.L9
open Go.RowKit Go.Lib

section
variable {K : Nat} {TS T : TypeId} {sz : Nat} {mc : Nat → List Value}

/-- Between two lists: i have been grown, and looked at K times each. -/
structure KrO (K : Nat) (TS T : TypeId) (sz : Nat) (mc : Nat → List Value) (w : World) (base : Nat) (l o : Value) (D : List LD) (A : List LD) (i : Nat) : Prop where
  row : w.ownsRow base TS 1 l D.length (D.map LD.v)
  all : w.ownsRow base TS 1 o A.length (A.map LD.v)
  ol : ∀ k, o.ownBlock = some k → ¬ l.ownBlock = some k
  len : A.length = K * i
  views : ∀ j (hj : j < A.length), Vw T sz mc w (A[j]).v (A[j]).n (j / K) ∧ ∀ k, (A[j]).v.ownBlock = some k → ¬ FutL D i k
  lists : ∀ i' (h : i' < D.length), i ≤ i' → w.ownsRow base T sz (D[i']).v (D[i']).n (rep mc i' (D[i']).n)
  apart : ApartL D
/-- Within the i-th: x is what it has grown to. -/
structure Kr (K : Nat) (TS T : TypeId) (sz : Nat) (mc : Nat → List Value) (w : World) (base : Nat) (l o : Value) (D : List LD) (A : List LD) (i q : Nat) (x : Value) (nx : Nat) : Prop where
  row : w.ownsRow base TS 1 l D.length (D.map LD.v)
  all : w.ownsRow base TS 1 o A.length (A.map LD.v)
  ol : ∀ k, o.ownBlock = some k → ¬ l.ownBlock = some k
  len : A.length = K * i + q
  views : ∀ j (hj : j < A.length), Vw T sz mc w (A[j]).v (A[j]).n (j / K) ∧ ∀ k, (A[j]).v.ownBlock = some k → ¬ FutL D (i + 1) k ∧ (x.ownBlock = some k → j / K = i ∧ (A[j]).n ≤ nx)
  own : w.ownsRow base T sz x nx (rep mc i nx)
  xf : ∀ k, x.ownBlock = some k → ¬ FutL D (i + 1) k
  lists : ∀ i' (h : i' < D.length), i + 1 ≤ i' → w.ownsRow base T sz (D[i']).v (D[i']).n (rep mc i' (D[i']).n)
  apart : ApartL D

theorem KrO.below {w w' : World} {base : Nat} {l o : Value} {D A : List LD} {i : Nat} (h : KrO K TS T sz mc w base l o D A i) (hb : Below w.heap.size w w') : KrO K TS T sz mc w' base l o D A i :=
  ⟨own_below h.row hb, own_below h.all hb, h.ol, h.len, fun j hj => ⟨(h.views j hj).1.below hb, (h.views j hj).2⟩, fun i' h1 h2 => own_below (h.lists i' h1 h2) hb, h.apart⟩
theorem Kr.below {w w' : World} {base : Nat} {l o : Value} {D A : List LD} {i q : Nat} {x : Value} {nx : Nat} (h : Kr K TS T sz mc w base l o D A i q x nx) (hb : Below w.heap.size w w') : Kr K TS T sz mc w' base l o D A i q x nx :=
  ⟨own_below h.row hb, own_below h.all hb, h.ol, h.len, fun j hj => ⟨(h.views j hj).1.below hb, (h.views j hj).2⟩, own_below h.own hb, h.xf, fun i' h1 h2 => own_below (h.lists i' h1 h2) hb, h.apart⟩
theorem KrO.enter {w : World} {base : Nat} {l o : Value} {D A : List LD} {i : Nat} (h : KrO K TS T sz mc w base l o D A i) (hi : i < D.length) : Kr K TS T sz mc w base l o D A i 0 (D[i]).v (D[i]).n := by
  refine ⟨h.row, h.all, h.ol, h.len, fun j hj => ⟨(h.views j hj).1, fun k hk => ⟨fun ⟨i', h1, h2, h3⟩ => (h.views j hj).2 k hk ⟨i', h1, by omega, h3⟩, fun hx => ?_⟩⟩, h.lists i hi (Nat.le_refl _), fun k hk => ?_, fun i' h1 h2 => h.lists i' h1 (by omega), h.apart⟩
  · exact absurd ⟨i, hi, Nat.le_refl _, hx⟩ ((h.views j hj).2 k hk)
  · rintro ⟨i', h1, h2, h3⟩
    exact h.apart.ne hi h1 (by omega) hk h3
end
end Go.Proofs.YthgikaklcglpiaaGreatDoor.L9
