/-
  What came in as an argument lies in memory as the walks ask it. Condition: the form's own reach.
-/
import Derived.Test.YtnddhkhmbjeefaaRows
import Derived.Test.YtnddhkhmbjeefaaP50
import Derived.Test.YtnddhkhmbjeefaaP53
import Derived.Deep.Slices
import Derived.SizedLaws
import Derived.WideShapes
import Derived.ChangeShapes
namespace Go.Proofs.Ytnddhkhmbjeefaa
open Go.RowKit Go.Deep Go.WideShapes Go.ChangeShapes

theorem weightsAll_mem {H : Type} {P : Program} {e : TypeId} {l : List (DataW H)} {d : DataW H} (hd : d ∈ l) : ∀ n ∈ d.weights P e, n ∈ DataW.weightsAll P e l := by
  induction l with
  | nil => cases hd
  | cons x l ih =>
    intro n hn
    rw [DataW.weightsAll, List.mem_append]
    rcases List.mem_cons.1 hd with rfl | h
    · exact .inl hn
    · exact .inr (ih h n hn)
theorem Try.cells3 : Try.prog.cellsOf 3 = 1 := by kernel_rfl
theorem Try.cells22 : Try.prog.cellsOf 22 = 1 := by kernel_rfl
theorem Try.bytes3' : Try.prog.bytesOf 3 = 8 := by kernel_rfl
theorem one_of {α : Type} (l : List α) (h : l.length = 1) : ∃ a, l = [a] := by
  match l, h with
  | [a], _ => exact ⟨a, rfl⟩
theorem fit_wf {n : Int} (h : (Lit.int .i64 n).wf = true) : Fit n := by
  simp only [Lit.wf, IntKind.min, IntKind.max, IntKind.signed, IntKind.bits, Bool.and_eq_true, decide_eq_true_eq, if_true] at h
  unfold Fit
  omega
theorem choose_int {p : Nat → Int → Prop} : ∀ n, (∀ i, i < n → ∃ s, p i s) → ∃ L : List Int, L.length = n ∧ ∀ i, i < n → p i (L.getD i 0)
  | 0, _ => ⟨[], rfl, fun i hi => absurd hi (Nat.not_lt_zero i)⟩
  | n + 1, h => by
    obtain ⟨L, h1, h2⟩ := choose_int n (fun i hi => h i (by omega))
    obtain ⟨s, hs⟩ := h n (by omega)
    refine ⟨L ++ [s], by simp [h1], fun i hi => ?_⟩
    by_cases hn : i < n
    · have := h2 i hn
      simpa [List.getD_eq_getElem?_getD, List.getElem?_append, h1, hn] using this
    · have : i = n := by omega
      subst this
      subst h1
      simpa [List.getD_eq_getElem?_getD] using hs
theorem all_getD {L : List Int} {q : Int → Prop} (h : ∀ i, i < L.length → q (L.getD i 0)) : ∀ k ∈ L, q k := fun k hk => by
  obtain ⟨i, hi, rfl⟩ := List.getElem_of_mem hk
  have := h i hi
  simpa [List.getD_eq_getElem?_getD, hi] using this
/-- What bounds a list: the form's bulk, or its weights. -/
def Bnd {H : Type} (up : Bool) (t : TypeId) (d : DataW H) : Prop := if up then False else ∀ k ∈ d.weights Try.prog t, k ≤ reachBytes
/-- Numbers that came in. -/
theorem ints_open {H : Type} {enc : TypeId × Value → H} {W : World} {fuel : Nat} {a0 : Option Addr} {len cap : Nat} {d : DataW H} {p : List MemPlace} {up : Bool}
    (hf : DataW.trod enc Try.prog W 0 (fun _ => true) true fuel 22 [.slice a0 len cap] = some (d, p)) (hw : Bnd up 22 d) : ∃ L : List Int, L.length = len ∧ ZAt W a0 L ∧ (∀ k ∈ L, Fit k) ∧ len ≤ 17592186043904 := by
  rcases open_slice Try.underlying22 hf with ⟨hcs, _⟩ | ⟨a, l, c, m, n, V, Pl, hcs, _, hl, hm, hmm, hx, hat⟩
  · injection hcs with hv
    injection hv with e1 e2 e3
    subst e2 e3
    exact ⟨[], rfl, .inl rfl, fun k hk => by simp at hk, by omega⟩
  · injection hcs with hv
    injection hv with e1 e2 e3
    subst e1 e2 e3
    simp only [if_true] at hmm
    subst hmm
    simp only [Prod.mk.injEq] at hx
    obtain ⟨hd, hp⟩ := hx
    have hlen : len ≤ 17592186043904 := by
      unfold Bnd at hw
      cases up with
      | true =>
        simp only [if_true] at hw
      | false =>
        simp only [Bool.false_eq_true, if_false] at hw
        have hcap : (len + (m - len)) * 8 ≤ reachBytes := by
          refine hw _ ?_
          rw [hd]
          simp [DataW.weights, Try.underlying22, Try.bytes3']
        simp only [reachBytes] at hcap
        omega
    by_cases h0 : len = 0
    · subst h0
      exact ⟨[], rfl, .inl rfl, fun k hk => by simp at hk, by omega⟩
    have each : ∀ i, i < len → ∃ z : Int, W.cell? (a.add (i * 1)) = some (.int .i64 z) ∧ Fit z := by
      intro i hi
      obtain ⟨cs', g1, g2⟩ := hat i (by omega)
      rw [Try.cells3] at g1
      obtain ⟨_, hlen, hcell⟩ := World.cells?_some g1
      obtain ⟨v, rfl⟩ := one_of cs' hlen
      obtain ⟨z, e, _, hwf⟩ := DataW.trod_int Try.underlying3 g2
      simp only [List.cons.injEq, and_true] at e
      subst e
      have c0 := hcell 0 (by decide)
      rw [add_add] at c0
      exact ⟨z, by simpa using c0, fit_wf hwf⟩
    obtain ⟨L, hL, hp'⟩ := choose_int len each
    obtain ⟨b, off, spot⟩ := a
    have hz := (hp' 0 (by omega)).1
    have hspot : spot = none := by simpa [Addr.add] using World.cell?_spot hz
    subst hspot
    refine ⟨L, hL, .inr ⟨b, off, rfl, World.block_lt_of_cell? W _ (by simpa [Addr.add] using hz), fun i hi => ?_⟩, all_getD (fun i hi => (hp' i (by omega)).2), hlen⟩
    have q0 := (hp' i (by omega)).1
    rw [addr_add, Nat.mul_one] at q0
    exact q0
theorem slice_of {H : Type} {enc : TypeId × Value → H} {W : World} {fuel : Nat} {t e : TypeId} {v : Value} {x : DataW H × List MemPlace} (hu : Try.prog.underlying t = some (.slice e)) (hf : DataW.trod enc Try.prog W 0 (fun _ => true) true fuel t [v] = some x) : ∃ ai li ci, v = .slice ai li ci := by
  rcases open_slice hu hf with ⟨hcs, _⟩ | ⟨a', l', c', _, _, _, _, hcs, _⟩
  · injection hcs with hv; exact ⟨none, 0, 0, hv⟩
  · injection hcs with hv; exact ⟨_, l', c', hv⟩

theorem two_of {α : Type} (l : List α) (h : l.length = 2) : ∃ a b, l = [a, b] := by
  match l, h with
  | [a, b], _ => exact ⟨a, b, rfl⟩
theorem three_of {α : Type} (l : List α) (h : l.length = 3) : ∃ a b c, l = [a, b, c] := by
  match l, h with
  | [a, b, c], _ => exact ⟨a, b, c, rfl⟩
theorem Try.cells54 : Try.prog.cellsOf 54 = 2 := by kernel_rfl
theorem Try.cells25 : Try.prog.cellsOf 25 = 3 := by kernel_rfl
theorem Try.cells23' : Try.prog.cellsOf 23 = 1 := by kernel_rfl
theorem Try.bytes54 : Try.prog.bytesOf 54 = 32 := by kernel_rfl
theorem Try.bytes22 : Try.prog.bytesOf 22 = 24 := by kernel_rfl
theorem choose_any {α : Type} {p : Nat → α → Prop} : ∀ n, (∀ i, i < n → ∃ s, p i s) → ∃ L : List α, L.length = n ∧ ∀ i (h : i < L.length), p i L[i]
  | 0, _ => ⟨[], rfl, fun i hi => absurd hi (Nat.not_lt_zero i)⟩
  | n + 1, h => by
    obtain ⟨L, h1, h2⟩ := choose_any n (fun i hi => h i (by omega))
    obtain ⟨s, hs⟩ := h n (by omega)
    refine ⟨L ++ [s], by simp [h1], fun i hi => ?_⟩
    by_cases hn : i < L.length
    · rw [List.getElem_append_left hn]; exact h2 i hn
    · have : i = L.length := by rw [List.length_append, List.length_singleton] at hi; omega
      subst this
      rw [List.getElem_append_right (Nat.le_refl _)]
      simp only [Nat.sub_self, List.getElem_cons_zero]
      rw [h1]; exact hs
def QtRd (W : World) (a : Addr) (i : Nat) (o : QZ) : Prop := W.cell? (a.add (i * 1)) = some (.slice o.pa o.L.length o.pc) ∧ QtOk W o
/-- Points that came in. -/
theorem points_open {H : Type} {enc : TypeId × Value → H} {W : World} {fuel : Nat} {a0 : Option Addr} {len cap : Nat} {d : DataW H} {p : List MemPlace}
    (hf : DataW.trod enc Try.prog W 0 (fun _ => true) true fuel 47 [.slice a0 len cap] = some (d, p)) (hw : Bnd false 47 d) : ∃ S : List QZ, S.length = len ∧ len ≤ 17592186043904 ∧ QtAt W a0 S := by
  rcases open_slice Try.underlying47 hf with ⟨hcs, _⟩ | ⟨a, l, c, m, n, V, Pl, hcs, _, hl, hm, hmm, hx, hat⟩
  · injection hcs with hv
    injection hv with e1 e2 e3
    subst e2 e3
    exact ⟨[], rfl, Nat.zero_le _, .inl rfl⟩
  · injection hcs with hv
    injection hv with e1 e2 e3
    subst e1 e2 e3
    simp only [if_true] at hmm
    subst hmm
    simp only [Prod.mk.injEq] at hx
    obtain ⟨hd, hp⟩ := hx
    unfold Bnd at hw
    simp only [Bool.false_eq_true, if_false] at hw
    have hlen : len ≤ 17592186043904 := by
      have hcap : (len + (m - len)) * 24 ≤ reachBytes := by
        refine hw _ ?_
        rw [hd]
        simp [DataW.weights, Try.underlying47, Try.bytes22]
      simp only [reachBytes] at hcap
      omega
    by_cases h0 : len = 0
    · subst h0
      exact ⟨[], rfl, Nat.zero_le _, .inl rfl⟩
    have each : ∀ i, i < len → ∃ o : QZ, QtRd W a i o := fun i hi => by
      obtain ⟨cs', g1, g2⟩ := hat i (by omega)
      rw [Try.cells22] at g1
      obtain ⟨_, hlen', hcell⟩ := World.cells?_some g1
      obtain ⟨v, rfl⟩ := one_of cs' hlen'
      obtain ⟨ai, li, ci, rfl⟩ := slice_of Try.underlying22 g2
      obtain ⟨L, e5, hz, hk, hl5⟩ := ints_open (up := false) g2 (by
        unfold Bnd
        simp only [Bool.false_eq_true, if_false]
        intro k hk
        refine hw k ?_
        rw [hd]
        simp only [DataW.weights, Try.underlying47, List.mem_cons, List.mem_append]
        exact .inr (.inl (weightsAll_mem (List.mem_map.2 ⟨i, List.mem_range.2 hi, rfl⟩) k hk)))
      subst e5
      have c0 := hcell 0 (by decide)
      rw [add_add] at c0
      exact ⟨⟨ai, ci, L⟩, by simpa using c0, ⟨hk, hz, hl5⟩⟩
    obtain ⟨L, hL, hp'⟩ := choose_any len each
    obtain ⟨b, off, spot⟩ := a
    have hz := (hp' 0 (by omega)).1
    have hspot : spot = none := by simpa [Addr.add] using World.cell?_spot hz
    subst hspot
    refine ⟨L, hL, hlen, .inr ⟨b, off, rfl, World.block_lt_of_cell? W _ (by simpa [Addr.add] using hz), fun i hi => ?_⟩⟩
    obtain ⟨q0, r1⟩ := hp' i hi
    rw [addr_add, Nat.mul_one] at q0
    exact ⟨q0, r1⟩
structure RwOk (W : World) (x : RW) : Prop where
  fit : Fit x.lv
  kf : ∀ c ∈ x.ks, Fit c
  at' : ZAt W x.ka x.ks
  len : x.ks.length ≤ 17592186043904
def RwRd (W : World) (a : Addr) (i : Nat) (o : RW) : Prop := W.cell? (a.add (i * 2)) = some (.int .i64 o.lv) ∧ W.cell? (a.add (i * 2 + 1)) = some (.slice o.ka o.ks.length o.kc) ∧ RwOk W o
/-- Raw nodes that came in. -/
theorem raws_open {H : Type} {enc : TypeId × Value → H} {W : World} {fuel : Nat} {a0 : Option Addr} {len cap : Nat} {d : DataW H} {p : List MemPlace}
    (hf : DataW.trod enc Try.prog W 0 (fun _ => true) true fuel 23 [.slice a0 len cap] = some (d, p)) (hw : Bnd false 23 d) : ∃ S : List RW, S.length = len ∧ len ≤ 17592186043904 ∧ RawAt W a0 S ∧ ∀ x ∈ S, Fit x.lv ∧ ∀ c ∈ x.ks, Fit c := by
  rcases open_slice Try.underlying23 hf with ⟨hcs, _⟩ | ⟨a, l, c, m, n, V, Pl, hcs, _, hl, hm, hmm, hx, hat⟩
  · injection hcs with hv
    injection hv with e1 e2 e3
    subst e2 e3
    exact ⟨[], rfl, Nat.zero_le _, ⟨.inl rfl, fun x hx => by simp at hx⟩, fun x hx => by simp at hx⟩
  · injection hcs with hv
    injection hv with e1 e2 e3
    subst e1 e2 e3
    simp only [if_true] at hmm
    subst hmm
    simp only [Prod.mk.injEq] at hx
    obtain ⟨hd, hp⟩ := hx
    unfold Bnd at hw
    simp only [Bool.false_eq_true, if_false] at hw
    have hlen : len ≤ 17592186043904 := by
      have hcap : (len + (m - len)) * 32 ≤ reachBytes := by
        refine hw _ ?_
        rw [hd]
        simp [DataW.weights, Try.underlying23, Try.bytes54]
      simp only [reachBytes] at hcap
      omega
    by_cases h0 : len = 0
    · subst h0
      exact ⟨[], rfl, Nat.zero_le _, ⟨.inl rfl, fun x hx => by simp at hx⟩, fun x hx => by simp at hx⟩
    have each : ∀ i, i < len → ∃ o : RW, RwRd W a i o := fun i hi => by
      obtain ⟨cs', g1, g2⟩ := hat i (by omega)
      rw [Try.cells54] at g1
      obtain ⟨_, hlen', hcell⟩ := World.cells?_some g1
      obtain ⟨xs, k, _, hxy, _, hxl, hfs⟩ := DataW.trod_struct Try.underlying54 g2
      obtain ⟨v0, v1, rfl⟩ := two_of cs' hlen'
      obtain ⟨y0, y1, rfl⟩ := two_of xs hxl
      have g0 := hfs 0 _ rfl
      have g1' := hfs 1 _ rfl
      simp [Try.cells3, Try.cells22] at g0 g1'
      obtain ⟨n0, e0, f0, w0⟩ := DataW.trod_int Try.underlying3 g0
      simp only [List.cons.injEq, and_true] at e0
      subst e0
      obtain ⟨ai, li, ci, rfl⟩ := slice_of Try.underlying22 g1'
      obtain ⟨L, e5, hz, hk, hl5⟩ := ints_open (d := y1.1) (p := y1.2) (up := false) g1' (by
        unfold Bnd
        simp only [Bool.false_eq_true, if_false]
        intro k hk
        refine hw k ?_
        rw [hd]
        simp only [DataW.weights, Try.underlying23, List.mem_cons, List.mem_append]
        refine .inr (.inl (weightsAll_mem (List.mem_map.2 ⟨i, List.mem_range.2 hi, rfl⟩) k ?_))
        have hd2 := congrArg Prod.fst hxy
        simp only at hd2
        rw [hd2]
        simp [DataW.weights, Try.underlying54]
        exact DataW.weights_mem_each (j := 1) (t := 22) rfl rfl k hk)
      subst e5
      have c0 := hcell 0 (by decide)
      have c1 := hcell 1 (by decide)
      rw [add_add] at c0 c1
      exact ⟨⟨n0, ai, ci, L⟩, by simpa using c0, by simpa using c1, ⟨fit_wf w0, hk, hz, hl5⟩⟩
    obtain ⟨L, hL, hp'⟩ := choose_any len each
    obtain ⟨b, off, spot⟩ := a
    have hz := (hp' 0 (by omega)).1
    have hspot : spot = none := by simpa [Addr.add] using World.cell?_spot hz
    subst hspot
    refine ⟨L, hL, hlen, ⟨.inr ⟨b, off, rfl, World.block_lt_of_cell? W _ (by simpa [Addr.add] using hz), fun i hi => ?_⟩, fun x hx => ?_⟩, fun x hx => ?_⟩
    · obtain ⟨q0, q1, _⟩ := hp' i hi
      rw [addr_add] at q0 q1
      exact ⟨q0, by rw [Nat.add_assoc]; exact q1⟩
    · obtain ⟨i, hi, rfl⟩ := List.getElem_of_mem hx
      have r := (hp' i hi).2.2
      exact ⟨r.at', by have := r.len; omega⟩
    · obtain ⟨i, hi, rfl⟩ := List.getElem_of_mem hx
      have r := (hp' i hi).2.2
      exact ⟨r.fit, r.kf⟩
set_option maxRecDepth 100000 in
/-- A raw arena that came in. -/
theorem made_open {H : Type} {enc : TypeId × Value → H} {W : World} {base : Nat} {v : Value} {d : DataW H} {p : List MemPlace} {r : _}
    (hok : Value.okWide Try.prog W r base 25 v) (h : DataW.Trod enc Try.prog W 0 (fun _ => true) true 25 v d p) (hw : Bnd false 25 d) : ∃ ao A c1 no Ns c2 ro Rt c3, v = .agg #[.slice ao (List.length A) c1, .slice no (List.length Ns) c2, .slice ro (List.length Rt) c3] ∧ MdA W ao A no Ns ro Rt := by
  obtain ⟨cs, rfl, hsz⟩ := okWide_struct Try.underlying25 hok
  obtain ⟨fuel, hf⟩ := h
  obtain ⟨xs, k, _, hxy, _, hxl, hfs⟩ := DataW.trod_struct Try.underlying25 hf
  rw [Try.cells25] at hsz
  obtain ⟨l⟩ := cs
  obtain ⟨v0, v1, v2, rfl⟩ := three_of l (by simpa using hsz)
  obtain ⟨y0, y1, y2, rfl⟩ := three_of xs hxl
  have g0 := hfs 0 _ rfl
  have g1 := hfs 1 _ rfl
  have g2 := hfs 2 _ rfl
  simp [Value.cells, Try.cells22, Try.cells23'] at g0 g1 g2
  obtain ⟨a0, l0, c0, rfl⟩ := slice_of Try.underlying22 g0
  obtain ⟨a1, l1, c1, rfl⟩ := slice_of Try.underlying23 g1
  obtain ⟨a2, l2, c2, rfl⟩ := slice_of Try.underlying22 g2
  unfold Bnd at hw
  simp only [Bool.false_eq_true, if_false] at hw
  have wm : ∀ (j : Nat) (t : TypeId) (y : DataW H), ([22, 23, 22] : List TypeId)[j]? = some t → ([y0.1, y1.1, y2.1] : List (DataW H))[j]? = some y → Bnd false t y := fun j t y h1 h2 => by
    unfold Bnd
    simp only [Bool.false_eq_true, if_false]
    intro n hn
    refine hw n ?_
    have hd := congrArg Prod.fst hxy
    simp only at hd
    rw [hd]
    simp [DataW.weights, Try.underlying25]
    exact DataW.weights_mem_each (j := j) (t := t) h1 h2 n hn
  obtain ⟨A, e0, z0, f0, b0⟩ := ints_open (d := y0.1) (p := y0.2) g0 (wm 0 22 _ rfl rfl)
  obtain ⟨Ns, e1, b1, z1, f1⟩ := raws_open (d := y1.1) (p := y1.2) g1 (wm 1 23 _ rfl rfl)
  obtain ⟨Rt, e2, z2, f2, b2⟩ := ints_open (d := y2.1) (p := y2.2) g2 (wm 2 22 _ rfl rfl)
  subst e0 e1 e2
  exact ⟨a0, A, c0, a1, Ns, c1, a2, Rt, c2, rfl, ⟨z0, f0, by omega, z1, f1, by omega, z2, f2, by omega⟩⟩
end Go.Proofs.Ytnddhkhmbjeefaa
