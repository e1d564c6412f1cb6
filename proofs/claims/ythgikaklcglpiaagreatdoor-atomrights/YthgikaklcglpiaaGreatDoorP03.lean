/-
  Has, Size, allRight, spans, ints and addsUp by their contracts; lists of lists of spans as they lie in memory. No condition but that a list is no longer than a process can hold.
-/
import Derived.Test.YthgikaklcglpiaaGreatDoorP02
import Derived.Test.YthgikaklcglpiaaGreatDoorP01
import Derived.Deep.RegionHeld3
import Derived.Lib.Strings
import Derived.Lib.Bytealg
namespace Go.Proofs.YthgikaklcglpiaaGreatDoor.L5
open Go.RowKit Go.Lib

theorem hasC_any (lo hi n : Int) (nb : Nat) (w : World) (hn : w.cell? ⟨nb, 0, none⟩ = some (.int .i64 n)) (hlt : nb < w.heap.size) :
    Calls Tryz.prog 183 #[.agg #[.int .i64 lo, .int .i64 hi], .pointer (some ⟨nb, 0, none⟩)] w fun e w' => e = .returned (.bool (decide (lo ≤ n) && decide (n ≤ hi))) ∧ Below w.heap.size w w' := by
  have q : (w.alloc (.cells #[.int .i64 lo, .int .i64 hi] 75)).cell? ⟨nb, 0, none⟩ = some (.int .i64 n) := by rw [World.cell?_alloc_past _ _ _ hlt]; exact hn
  by_cases h1 : lo ≤ n
  · by_cases h2 : n ≤ hi
    · rw [decide_eq_true h1, decide_eq_true h2]
      go_enter Tryz.func183, Tryz.ntmps183
      go_wp2
      go_ret
      exact ⟨rfl, (Below.refl _ _).alloc (Nat.le_refl _) _⟩
    · rw [decide_eq_true h1, decide_eq_false h2]
      go_enter Tryz.func183, Tryz.ntmps183
      go_wp2
      go_ret
      exact ⟨rfl, (Below.refl _ _).alloc (Nat.le_refl _) _⟩
  · rw [decide_eq_false h1, Bool.false_and]
    go_enter Tryz.func183, Tryz.ntmps183
    go_wp2
    go_ret
    exact ⟨rfl, (Below.refl _ _).alloc (Nat.le_refl _) _⟩

theorem memB_of_at {L : List Spn} {n : Int} {k : Nat} (hk : k < L.length) (h : ((decide ((L.getD k (0, 0)).1 ≤ n) && decide (n ≤ (L.getD k (0, 0)).2)) = true)) : memB n L = true := by
  rw [memB_iff]
  refine ⟨L[k], List.getElem_mem hk, ?_⟩
  simpa [List.getD_eq_getElem?_getD, hk] using h
theorem memB_of_none {L : List Spn} {n : Int} (h : ∀ k, k < L.length → ((decide ((L.getD k (0, 0)).1 ≤ n) && decide (n ≤ (L.getD k (0, 0)).2)) = false)) : memB n L = false := by
  cases e : memB n L with
  | false => rfl
  | true =>
    obtain ⟨s, hs, h1, h2⟩ := (memB_iff n L).1 e
    obtain ⟨k, hk, rfl⟩ := List.getElem_of_mem hs
    have := h k hk
    simp [List.getD_eq_getElem?_getD, hk, h1, h2] at this

set_option maxRecDepth 100000 in
set_option maxHeartbeats 1000000 in
theorem indexF_any (ao : Option Addr) (cap : Nat) (L : List Spn) (n : Int) (nb : Nat) (w : World) (hl : L.length ≤ 140737488351232) (hat : SpAt w ao L) (hn : w.cell? ⟨nb, 0, none⟩ = some (.int .i64 n)) (hlt0 : nb < w.heap.size) :
    Calls Tryz.prog 245 #[.slice ao L.length cap, .func (.func 183) #[] #[.pointer (some ⟨nb, 0, none⟩)]] w fun e w' => (∃ i : Int, e = .returned (.int .i64 i) ∧ decide (0 ≤ i) = memB n L) ∧ Below w.heap.size w w' := by
  go_enter Tryz.func245, Tryz.ntmps245
  go_wp2
  go_loopw [8] (fun i wr => ∃ k : Nat, k ≤ L.length ∧ i = .int .i64 k ∧ Hid (∀ k', k' < k → ((decide ((L.getD k' (0, 0)).1 ≤ n) && decide (n ≤ (L.getD k' (0, 0)).2)) = false)) ∧ Below w.heap.size w wr) (fun i _ => L.length - (intOf i).toNat)
  case atStart => exact ⟨0, Nat.zero_le _, rfl, fun j hj => absurd hj (by omega), Below.refl _ _⟩
  case round =>
    obtain ⟨k, hk, rfl, hok, hq⟩ := hrel
    have HQ := hide hq
    clear hq
    by_cases hlt : k < L.length
    · obtain ⟨b, off, rfl, hb, hc⟩ := hat.get hlt
      obtain ⟨c1, c2⟩ := (hc k hlt).below HQ.out hb
      have hn' := (HQ.out.cell (p := ⟨nb, 0, none⟩) hlt0).trans hn
      have hlt1 := Nat.lt_of_lt_of_le hlt0 HQ.out.size
      obtain ⟨s, hs⟩ : ∃ s, s = L.getD k (0, 0) := ⟨_, rfl⟩
      rw [← hs] at c1 c2
      have HS := hide hs
      have hcon := hasC_any s.1 s.2 n nb wr hn' hlt1
      clear hs hc hat
      by_cases hm : (decide (s.1 ≤ n) && decide (n ≤ s.2)) = true
      · rw [hm] at hcon
        go_wp2_with (go_at_call 183; refine hcon.mono ?_; rintro e w2 ⟨rfl, x2⟩; have X2 := hide x2; clear x2)
        go_ret
        exact ⟨⟨(k : Int), rfl, by rw [memB_of_at hlt (by rw [← HS.out]; exact hm)]; simp⟩, HQ.out.trans (X2.out.mono HQ.out.size)⟩
      · rw [Bool.not_eq_true] at hm
        rw [hm] at hcon
        go_wp2_with (go_at_call 183; refine hcon.mono ?_; rintro e w2 ⟨rfl, x2⟩; have X2 := hide x2; clear x2)
        go_roundw
        case rel =>
          refine ⟨k + 1, by omega, by go_num, fun j hj => ?_, HQ.out.trans (X2.out.mono HQ.out.size)⟩
          rcases Nat.lt_or_ge j k with h | h
          · exact hok.out j h
          · rw [show j = k by omega, ← HS.out]; exact hm
        case measure => simp [intOf]; omega
    · have h8 : k = L.length := by omega
      subst h8
      go_wp2
      go_ret
      exact ⟨⟨-1, rfl, by rw [memB_of_none hok.out]; rfl⟩, HQ.out⟩

theorem contains_any (ao : Option Addr) (cap : Nat) (L : List Spn) (n : Int) (nb : Nat) (w : World) (hl : L.length ≤ 140737488351232) (hat : SpAt w ao L) (hn : w.cell? ⟨nb, 0, none⟩ = some (.int .i64 n)) (hlt0 : nb < w.heap.size) :
    Calls Tryz.prog 182 #[.slice ao L.length cap, .func (.func 183) #[] #[.pointer (some ⟨nb, 0, none⟩)]] w fun e w' => e = .returned (.bool (memB n L)) ∧ Below w.heap.size w w' := by
  have hcon := indexF_any ao cap L n nb w hl hat hn hlt0
  clear hat hn
  go_enter Tryz.func182, Tryz.ntmps182
  go_wp2_with (go_at_call 245; refine hcon.mono ?_; rintro e w2 ⟨⟨i, rfl, hi⟩, x2⟩; have X2 := hide x2; have HI := hide hi; clear x2 hi)
  go_ret
  exact ⟨by rw [← HI.out]; rfl, X2.out⟩

/-- Has. -/
def hasL (L : List Spn) (n : Int) : Bool := decide (IsSet L) && memB n L
theorem has_any (ao : Option Addr) (cap : Nat) (L : List Spn) (n : Int) (w : World) (hl : L.length ≤ 140737488351232) (hat : SpAt w ao L) :
    Calls Tryz.prog 130 #[.slice ao L.length cap, .int .i64 n] w fun e w' => e = .returned (.bool (hasL L n)) ∧ Below w.heap.size w w' := by
  have hmf : ∀ (fn : Fn) (first cap : Array Value) (w : World), (Instr.makeFunc fn first cap).run Tryz.prog w = .ok (.func fn first cap) w := fun _ _ _ _ => rfl
  have b1 : Below w.heap.size w (w.alloc (.cells #[.int .i64 n] 3)) := (Below.refl _ _).alloc (Nat.le_refl _) _
  have hr := right_any ao cap L (w.alloc (.cells #[.int .i64 n] 3)) hl (hat.below b1)
  by_cases hs : IsSet L
  · rw [decide_eq_true hs] at hr
    have e1 : hasL L n = memB n L := by simp [hasL, hs]
    rw [e1]
    have hc := fun (w2 : World) (h : Below (w.alloc (.cells #[.int .i64 n] 3)).heap.size (w.alloc (.cells #[.int .i64 n] 3)) w2) =>
      contains_any ao cap L n w.heap.size w2 hl ((hat.below b1).below h) ((h.cell (p := ⟨w.heap.size, 0, none⟩) (by simp)).trans (by simp)) (Nat.lt_of_lt_of_le (by simp) h.size)
    have HB := hide b1
    clear hat e1 b1
    go_enter Tryz.func130, Tryz.ntmps130
    go_wp2_with (first | (go_at_call 181; refine hr.mono ?_; rintro e w2 ⟨rfl, x2⟩; have X2 := hide x2; clear x2) | (go_at_call 182; refine (hc _ X2.out).mono ?_; rintro e w3 ⟨rfl, x3⟩; have X3 := hide x3; clear x3))
    go_ret
    exact ⟨rfl, HB.out.trans ((X2.out.mono (by simp)).trans (X3.out.mono (Nat.le_trans (by simp) X2.out.size)))⟩
  · rw [decide_eq_false hs] at hr
    have e1 : hasL L n = false := by simp [hasL, hs]
    rw [e1]
    have HB := hide b1
    clear hat e1 b1
    go_enter Tryz.func130, Tryz.ntmps130
    go_wp2_with (go_at_call 181; refine hr.mono ?_; rintro e w2 ⟨rfl, x2⟩; have X2 := hide x2; clear x2)
    go_ret
    exact ⟨rfl, HB.out.trans (X2.out.mono (by simp))⟩
end Go.Proofs.YthgikaklcglpiaaGreatDoor.L5
/-
  A pattern's text, read: as a function of the bytes that are left. No condition.
-/
namespace Go.Proofs.YthgikaklcglpiaaGreatDoor.L5
abbrev By := List UInt8
/-- The next byte, from least to 126; else where it stands. -/
def tkL (least : Nat) : By → Except By (UInt8 × By)
  | [] => .error []
  | c :: t => if least ≤ c.toNat ∧ c.toNat ≤ 126 then .ok (c, t) else .error (c :: t)
/-- A byte of a set. -/
def mbL (least : Nat) (r : By) : Except By (UInt8 × By) :=
  if [92].isPrefixOf r then tkL least (r.drop 1) else if [93].isPrefixOf r || [45].isPrefixOf r then .error r else tkL least r
/-- An item. -/
def itL (r : By) : Except By (Spn × By) := match mbL 32 r with
  | .error t => .error t
  | .ok (lo, t) => if [45].isPrefixOf t then (match mbL lo.toNat (t.drop 1) with
    | .error u => .error u
    | .ok (hi, u) => .ok ((((lo.toNat : Nat) : Int), ((hi.toNat : Nat) : Int)), u)) else .ok ((((lo.toNat : Nat) : Int), ((lo.toNat : Nat) : Int)), t)
/-- Items to the bracket. -/
def itsL : Nat → By → List Spn → Except By (List Spn × By)
  | 0, r, _ => .error r
  | n + 1, r, A => if !A.isEmpty && [93].isPrefixOf r then .ok (A, r.drop 1) else match itL r with
    | .error t => .error t
    | .ok (s, t) => itsL n t (A ++ [s])
/-- A piece. -/
structure Pc where
  kind : Int
  b : Int
  no : Bool
  set : List Spn
/-- The set of some spans. -/
def insS (s : Spn) : List Spn → List Spn
  | [] => [s]
  | t :: L => if s.1 ≤ t.1 then s :: t :: L else t :: insS s L
def srtS : List Spn → List Spn
  | [] => []
  | s :: L => insS s (srtS L)
theorem insS_perm (s : Spn) : ∀ L, (insS s L).Perm (s :: L)
  | [] => List.Perm.refl _
  | t :: L => by
    unfold insS
    split
    · exact List.Perm.refl _
    · exact ((insS_perm s L).cons t).trans (List.Perm.swap s t L)
theorem srtS_perm : ∀ L, (srtS L).Perm L
  | [] => List.Perm.refl _
  | s :: L => (insS_perm s _).trans ((srtS_perm L).cons s)
theorem insS_sorted (s : Spn) : ∀ L : List Spn, L.Pairwise (fun s t => s.1 ≤ t.1) → (insS s L).Pairwise (fun s t => s.1 ≤ t.1)
  | [], _ => List.pairwise_singleton _ _
  | t :: L, h => by
    unfold insS
    split
    · rename_i hs
      refine List.pairwise_cons.2 ⟨fun x hx => ?_, h⟩
      rcases List.mem_cons.1 hx with rfl | hx
      · exact hs
      · exact Int.le_trans hs ((List.pairwise_cons.1 h).1 x hx)
    · rename_i hs
      refine List.pairwise_cons.2 ⟨fun x hx => ?_, insS_sorted s L (List.pairwise_cons.1 h).2⟩
      rcases List.mem_cons.1 ((insS_perm s L).mem_iff.1 hx) with rfl | hx
      · omega
      · exact (List.pairwise_cons.1 h).1 x hx
theorem srtS_sorted : ∀ L : List Spn, (srtS L).Pairwise (fun s t => s.1 ≤ t.1)
  | [] => List.Pairwise.nil
  | s :: L => insS_sorted s _ (srtS_sorted L)
def setOf (A : List Spn) : List Spn := joinAll (srtS A)
theorem memB_perm {L M : List Spn} (h : L.Perm M) (n : Int) : memB n L = memB n M := by
  rw [Bool.eq_iff_iff, memB_iff, memB_iff]
  exact ⟨fun ⟨s, hs, h1⟩ => ⟨s, h.mem_iff.1 hs, h1⟩, fun ⟨s, hs, h1⟩ => ⟨s, h.mem_iff.2 hs, h1⟩⟩
theorem setOf_spec {A : List Spn} (hb : ∀ s ∈ A, Bnd s) : IsSet (setOf A) ∧ ∀ n, memB n (setOf A) = memB n A := by
  have h := joinAll_spec _ (srtS A) rfl (fun s hs => hb s ((srtS_perm A).mem_iff.1 hs)) (srtS_sorted A)
  exact ⟨h.1, fun n => (h.2.1 n).trans (memB_perm (srtS_perm A) n)⟩
def stL (r : By) : Except By (Pc × By) :=
  let no := [33].isPrefixOf r
  let r1 := if no then r.drop 1 else r
  match itsL (r1.length + 1) r1 [] with
  | .error t => .error t
  | .ok (A, t) => .ok (⟨3, 0, no, setOf A⟩, t)
def pcL (r : By) : Except By (Pc × By) :=
  if [42, 42].isPrefixOf r then .ok (⟨5, 0, false, []⟩, r.drop 2)
  else if [42].isPrefixOf r then .ok (⟨4, 0, false, []⟩, r.drop 1)
  else if [63].isPrefixOf r then .ok (⟨2, 0, false, []⟩, r.drop 1)
  else if [91].isPrefixOf r then stL (r.drop 1)
  else match tkL 32 (if [92].isPrefixOf r then r.drop 1 else r) with
    | .error t => .error t
    | .ok (c, t) => .ok (⟨1, ((c.toNat : Nat) : Int), false, []⟩, t)
/-- Pieces to the end. -/
def psL : Nat → By → List Pc → Except By (List Pc)
  | 0, r, _ => .error r
  | n + 1, r, A => if r = [] then .ok A else if A.length = 64 then .error r else match pcL r with
    | .error t => .error t
    | .ok (p, t) => psL n t (A ++ [p])
def parL (s : By) : Except By (List Pc) := psL (s.length + 1) s []

theorem drop_lt {r : By} {q : By} (h : q.isPrefixOf r = true) (hq : 0 < q.length) : (r.drop q.length).length < r.length ∧ (r.drop q.length) <:+ r := by
  obtain ⟨t, rfl⟩ := List.isPrefixOf_iff_prefix.1 h
  simp
  omega
theorem drop1 {r : By} {c : UInt8} (h : [c].isPrefixOf r = true) : (r.drop 1).length < r.length ∧ (r.drop 1) <:+ r := drop_lt h (by simp)
theorem tkL_ok {least : Nat} {r t : By} {c : UInt8} (h : tkL least r = .ok (c, t)) : r = c :: t ∧ least ≤ c.toNat ∧ c.toNat ≤ 126 := by
  cases r with
  | nil => cases h
  | cons d r =>
    rw [show tkL least (d :: r) = if least ≤ d.toNat ∧ d.toNat ≤ 126 then .ok (d, r) else .error (d :: r) from rfl] at h
    split at h
    · injection h with h; injection h with h1 h2; subst h1 h2; rename_i h; exact ⟨rfl, h⟩
    · cases h
theorem mbL_ok {least : Nat} {r t : By} {c : UInt8} (h : mbL least r = .ok (c, t)) : t.length < r.length ∧ t <:+ r ∧ least ≤ c.toNat ∧ c.toNat ≤ 126 := by
  unfold mbL at h
  split at h
  · rename_i h1
    obtain ⟨h2, h3⟩ := drop1 h1
    obtain ⟨h4, h5, h6⟩ := tkL_ok h
    rw [h4] at h2 h3
    exact ⟨by simp at h2; omega, (List.suffix_cons c t).trans h3, h5, h6⟩
  · split at h
    · cases h
    · obtain ⟨h4, h5, h6⟩ := tkL_ok h
      subst h4
      exact ⟨by simp, List.suffix_cons c t, h5, h6⟩
theorem itL_ok {r t : By} {s : Spn} (h : itL r = .ok (s, t)) : t.length < r.length ∧ t <:+ r ∧ 32 ≤ s.1 ∧ s.1 ≤ s.2 ∧ s.2 ≤ 126 := by
  unfold itL at h
  split at h
  · cases h
  · rename_i lo t1 h1
    obtain ⟨a1, a2, a3, a4⟩ := mbL_ok h1
    split at h
    · rename_i h2
      obtain ⟨b1, b2⟩ := drop1 h2
      split at h
      · cases h
      · rename_i hi u h3
        obtain ⟨c1, c2, c3, c4⟩ := mbL_ok h3
        injection h with h; injection h with e1 e2; subst e1 e2
        exact ⟨by omega, c2.trans (b2.trans a2), by simp; omega, by simp; omega, by simp; omega⟩
    · injection h with h; injection h with e1 e2; subst e1 e2
      exact ⟨a1, a2, by simp; omega, by simp, by simp; omega⟩
/-- A span of bytes that a pattern may name. -/
def InB (s : Spn) : Prop := 32 ≤ s.1 ∧ s.1 ≤ s.2 ∧ s.2 ≤ 126
theorem itsL_ok : ∀ {n : Nat} {r t : By} {A B : List Spn}, itsL n r A = .ok (B, t) → (∀ s ∈ A, InB s) → t.length < r.length ∧ t <:+ r ∧ B ≠ [] ∧ ∀ s ∈ B, InB s
  | 0, r, t, A, B, h, _ => by cases h
  | n + 1, r, t, A, B, h, hA => by
    unfold itsL at h
    split at h
    · rename_i hb
      injection h with h; injection h with h1 h2; subst h1 h2
      simp only [Bool.and_eq_true, Bool.not_eq_true', List.isEmpty_eq_false_iff] at hb
      obtain ⟨d1, d2⟩ := drop1 hb.2
      exact ⟨d1, d2, hb.1, hA⟩
    · split at h
      · cases h
      · rename_i s t1 hi
        obtain ⟨a1, a2, a3, a4, a5⟩ := itL_ok hi
        obtain ⟨b1, b2, b3, b4⟩ := itsL_ok h (fun x hx => by
          rcases List.mem_append.1 hx with hx | hx
          · exact hA x hx
          · rw [List.mem_singleton.1 hx]; exact ⟨a3, a4, a5⟩)
        exact ⟨by omega, b2.trans a2, b3, b4⟩
/-- A piece is right by itself. -/
def Rp (p : Pc) : Prop := (p.kind = 1 ∧ 32 ≤ p.b ∧ p.b ≤ 126 ∧ p.no = false ∧ p.set = []) ∨ ((p.kind = 2 ∨ p.kind = 4 ∨ p.kind = 5) ∧ p.b = 0 ∧ p.no = false ∧ p.set = []) ∨ (p.kind = 3 ∧ p.b = 0 ∧ IsSet p.set ∧ p.set ≠ [] ∧ ∀ s ∈ p.set, 32 ≤ s.1 ∧ s.2 ≤ 126)
theorem InB.bnd {s : Spn} (h : InB s) : Bnd s := by
  unfold InB at h
  unfold Bnd
  omega
theorem setOf_in {A : List Spn} (hA : ∀ s ∈ A, InB s) (hne : A ≠ []) : IsSet (setOf A) ∧ setOf A ≠ [] ∧ ∀ s ∈ setOf A, 32 ≤ s.1 ∧ s.2 ≤ 126 := by
  obtain ⟨h1, h2⟩ := setOf_spec (fun s hs => (hA s hs).bnd)
  refine ⟨h1, fun h => ?_, fun s hs => ?_⟩
  · cases A with
    | nil => exact hne rfl
    | cons x A =>
      have h3 := h2 x.1
      rw [h, memB_nil, memB_cons] at h3
      have := hA x (by simp)
      unfold InB at this
      simp [this.2.1] at h3
  · have hb := h1.1 s hs
    unfold Bnd at hb
    have e1 : memB s.1 A = true := by rw [← h2]; exact (memB_iff _ _).2 ⟨s, hs, Int.le_refl _, hb.2.1⟩
    have e2 : memB s.2 A = true := by rw [← h2]; exact (memB_iff _ _).2 ⟨s, hs, hb.2.1, Int.le_refl _⟩
    obtain ⟨x, hx, a1, a2⟩ := (memB_iff _ _).1 e1
    obtain ⟨y, hy, b1, b2⟩ := (memB_iff _ _).1 e2
    have hx' := hA x hx
    have hy' := hA y hy
    unfold InB at hx' hy'
    omega
theorem stL_ok {r t : By} {p : Pc} (h : stL r = .ok (p, t)) : t.length < r.length ∧ t <:+ r ∧ Rp p ∧ p.kind = 3 := by
  unfold stL at h
  simp only at h
  split at h
  · cases h
  · rename_i A t1 hi
    injection h with h; injection h with h1 h2; subst h1 h2
    obtain ⟨a1, a2, a3, a4⟩ := itsL_ok hi (fun s hs => by cases hs)
    obtain ⟨b1, b2, b3⟩ := setOf_in a4 a3
    have hr : (if [33].isPrefixOf r = true then r.drop 1 else r).length ≤ r.length ∧ (if [33].isPrefixOf r = true then r.drop 1 else r) <:+ r := by
      split
      · rename_i hb; exact ⟨Nat.le_of_lt (drop1 hb).1, (drop1 hb).2⟩
      · exact ⟨Nat.le_refl _, List.suffix_refl _⟩
    exact ⟨by omega, a2.trans hr.2, .inr (.inr ⟨rfl, rfl, b1, b2, b3⟩), rfl⟩
theorem pcL_ok {r t : By} {p : Pc} (h : pcL r = .ok (p, t)) : t.length < r.length ∧ t <:+ r ∧ Rp p := by
  unfold pcL at h
  split at h
  · rename_i hb; injection h with h; injection h with h1 h2; subst h1 h2; exact ⟨(drop_lt hb (by decide)).1, (drop_lt hb (by decide)).2, .inr (.inl ⟨.inr (.inr rfl), rfl, rfl, rfl⟩)⟩
  · split at h
    · rename_i hb; injection h with h; injection h with h1 h2; subst h1 h2; exact ⟨(drop1 hb).1, (drop1 hb).2, .inr (.inl ⟨.inr (.inl rfl), rfl, rfl, rfl⟩)⟩
    · split at h
      · rename_i hb; injection h with h; injection h with h1 h2; subst h1 h2; exact ⟨(drop1 hb).1, (drop1 hb).2, .inr (.inl ⟨.inl rfl, rfl, rfl, rfl⟩)⟩
      · split at h
        · rename_i hb
          obtain ⟨a1, a2, a3, _⟩ := stL_ok h
          exact ⟨Nat.lt_trans a1 (drop1 hb).1, a2.trans (drop1 hb).2, a3⟩
        · split at h
          · cases h
          · rename_i c t1 hi
            injection h with h; injection h with h1 h2; subst h1 h2
            obtain ⟨a1, a2, a3⟩ := tkL_ok hi
            have hr : (if [92].isPrefixOf r = true then r.drop 1 else r).length ≤ r.length ∧ (if [92].isPrefixOf r = true then r.drop 1 else r) <:+ r := by
              split
              · rename_i hb; exact ⟨Nat.le_of_lt (drop1 hb).1, (drop1 hb).2⟩
              · exact ⟨Nat.le_refl _, List.suffix_refl _⟩
            rw [a1] at hr
            exact ⟨by have := hr.1; simp at this; omega, (List.suffix_cons c t1).trans hr.2, .inl ⟨rfl, by simp; omega, by simp; omega, rfl, rfl⟩⟩
end Go.Proofs.YthgikaklcglpiaaGreatDoor.L5
/-
  strings.HasPrefix, strings.IndexByte and the reader's skip and take by their contracts. Condition: a text is no longer than a process can hold.
-/
namespace Go.Proofs.YthgikaklcglpiaaGreatDoor.L5
open Go.RowKit Go.Lib

theorem bt {N : Nat} {a b c : World} (h : Below N a b) (k : Below b.heap.size b c) (hN : N ≤ a.heap.size) : Below N a c := h.trans (k.mono (Nat.le_trans hN h.size))
theorem al {w w' : World} (h : Below w.heap.size w w') (o : Obj) : Below w.heap.size w (w'.alloc o) := h.alloc h.size o
theorem block_setCell {w : World} {b : Nat} {cs : Array Value} {t : TypeId} {fr : Nat × Nat} (h : w.heap[b]? = some (.cells cs t fr)) (j : Nat) (u : Value) : (w.setCell ⟨b, j, none⟩ u).heap[b]? = some (.cells (cs.set! j u) t fr) := by
  have hlt := lt_of_block h
  have h' : w.heap[b] = .cells cs t fr := by simpa [Array.getElem?_eq_getElem hlt] using h
  show (w.heap.modify b _)[b]? = _
  rw [Array.getElem?_eq_getElem (by simpa using hlt), Array.getElem_modify_self, h']
  rfl

set_option maxHeartbeats 1000000 in
set_option maxRecDepth 100000 in
theorem idxByte_any (s : By) (c : Int) (w : World) : Calls Tryz.prog 265 #[.string ⟨s.toArray⟩, .int .u8 c] w fun e w' => e = .returned (.int .i64 (Lib.indexByte s c.toNat.toUInt8)) ∧ w' = w := by
  have H : Calls Tryz.prog 311 #[.string ⟨s.toArray⟩, .int .u8 c] w fun e w' => e = .returned (.int .i64 (Lib.indexByte s c.toNat.toUInt8)) ∧ w' = w := by
    go_enter Tryz.func311, Tryz.ntmps311
    go_wp2
    rw [run_callFunc_extern Tryz.func347 (by kernel_rfl) (by kernel_rfl) (by kernel_rfl) (e := Extern.BytealgIndexByte.indexByte) (by kernel_rfl), Lib.run_indexByteString]
    simp only [Result.andThen]
    rw [Oper.upon_value]
    go_wp2
    go_ret
    exact ⟨rfl, rfl⟩
  go_enter Tryz.func265, Tryz.ntmps265
  go_wp2_with (go_at_call 311; refine H.mono ?_; rintro e w2 ⟨rfl, hw2⟩; subst hw2)
  go_ret
  exact ⟨rfl, rfl⟩

/-- A reader that has gone over p, ahead of r. -/
def RdAt (w : World) (rb : Nat) (p r : By) : Prop := w.heap[rb]? = some (.cells #[.string ⟨(p ++ r).toArray⟩, .int .i64 (p.length : Nat)] 141 (0, 0))
theorem RdAt.below {w w' : World} {rb : Nat} {p r : By} (h : RdAt w rb p r) (x : Below w.heap.size w w') : RdAt w' rb p r := (x.block rb (lt_of_block h)).trans h
theorem RdAt.kept {F : Nat → Prop} {w w' : World} {rb : Nat} {p r : By} (h : RdAt w rb p r) (x : Kept F w w') (hF : ¬ F rb) : RdAt w' rb p r := (x.block rb (lt_of_block h) hF).trans h
end Go.Proofs.YthgikaklcglpiaaGreatDoor.L5
