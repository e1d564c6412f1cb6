/-
  A script that came in as an argument lies in memory as the walks ask it. Condition: the form's own reach.
-/
import Derived.Test.YtonoobjpafhogaaDoorScript
import Derived.Deep.Slices
import Derived.SizedLaws
namespace Go.Proofs.YtonoobjpafhogaaDoor
open Go.RowKit Go.Deep

theorem wf_i64 {n : Int} (h : (Lit.int .i64 n).wf = true) : -9223372036854775808 ≤ n ∧ n ≤ 9223372036854775807 := by
  simp only [Lit.wf, IntKind.min, IntKind.max, IntKind.signed, IntKind.bits, Bool.and_eq_true, decide_eq_true_eq, if_true] at h
  omega
theorem weightsAll_mem {H : Type} {P : Program} {e : TypeId} {l : List (DataW H)} {d : DataW H} (hd : d ∈ l) : ∀ n ∈ d.weights P e, n ∈ DataW.weightsAll P e l := by
  induction l with
  | nil => cases hd
  | cons x l ih =>
    intro n hn
    rw [DataW.weightsAll, List.mem_append]
    rcases List.mem_cons.1 hd with rfl | h
    · exact .inl hn
    · exact .inr (ih h n hn)
theorem Tryd.cells36 : Tryd.prog.cellsOf 36 = 5 := by kernel_rfl
theorem Tryd.bytes36 : Tryd.prog.bytesOf 36 = 48 := by kernel_rfl
theorem Tryd.cells3 : Tryd.prog.cellsOf 3 = 1 := by kernel_rfl
theorem Tryd.cells9 : Tryd.prog.cellsOf 9 = 1 := by kernel_rfl

theorem five {α : Type} (l : List α) (h : l.length = 5) : ∃ a b c d e, l = [a, b, c, d, e] := by
  match l, h with
  | [a, b, c, d, e], _ => exact ⟨a, b, c, d, e, rfl⟩
theorem addr_add (b off n : Nat) : (⟨b, off, none⟩ : Addr).add n = ⟨b, off + n, none⟩ := by unfold Addr.add; split <;> simp_all

/-- One element of a script, read. -/
theorem op_read {H : Type} {enc : TypeId × Value → H} {W : World} {base n : Nat} {spare : Nat → Bool} {held : Bool} {a : Addr} {i : Nat} {cs : List Value} {x : DataW H × List MemPlace}
    (h1 : W.cells? base (a.add (i * 5)) 5 = some cs) (h2 : DataW.trod enc Tryd.prog W base spare held n 36 cs = some x) (hw : ∀ k ∈ x.1.weights Tryd.prog 36, k ≤ reachBytes) :
    ∃ o : OpD, OpOk o ∧ W.cell? (a.add (i * 5)) = some (.int .i64 o.kind) ∧ W.cell? (a.add (i * 5 + 1)) = some (.int .i64 o.on) ∧ W.cell? (a.add (i * 5 + 2)) = some (.int .i64 o.size) ∧ W.cell? (a.add (i * 5 + 3)) = some (.int .i64 o.n) ∧ W.cell? (a.add (i * 5 + 4)) = some (.string o.s) := by
  obtain ⟨_, hlen, hcell⟩ := World.cells?_some h1
  obtain ⟨xs, k, _, hxy, _, hxl, hf⟩ := DataW.trod_struct Tryd.underlying36 h2
  obtain ⟨v0, v1, v2, v3, v4, rfl⟩ := five cs hlen
  obtain ⟨y0, y1, y2, y3, y4, rfl⟩ := five xs hxl
  have g0 := hf 0 _ rfl
  have g1 := hf 1 _ rfl
  have g2 := hf 2 _ rfl
  have g3 := hf 3 _ rfl
  have g4 := hf 4 _ rfl
  simp [Tryd.cells3, Tryd.cells9] at g0 g1 g2 g3 g4
  obtain ⟨n0, e0, f0, w0⟩ := DataW.trod_int Tryd.underlying3 g0
  obtain ⟨n1, e1, f1, w1⟩ := DataW.trod_int Tryd.underlying3 g1
  obtain ⟨n2, e2, f2, w2⟩ := DataW.trod_int Tryd.underlying3 g2
  obtain ⟨n3, e3, f3, w3⟩ := DataW.trod_int Tryd.underlying3 g3
  obtain ⟨s, e4, f4, w4⟩ := DataW.trod_string Tryd.underlying9 g4
  simp only [List.cons.injEq, and_true] at e0 e1 e2 e3 e4
  subst e0 e1 e2 e3 e4
  have c0 := hcell 0 (by decide)
  have c1 := hcell 1 (by decide)
  have c2 := hcell 2 (by decide)
  have c3 := hcell 3 (by decide)
  have c4 := hcell 4 (by decide)
  rw [add_add] at c0 c1 c2 c3 c4
  have hs : s.size ≤ 140737488351232 := by
    have := hw s.size (by
      rw [hxy]
      subst f4
      simp [DataW.weights, Tryd.underlying36, DataW.weightsEach])
    exact this
  exact ⟨⟨n0, n1, n2, n3, s⟩, ⟨wf_i64 w0, wf_i64 w1, wf_i64 w2, wf_i64 w3, hs⟩, by simpa using c0, by simpa using c1, by simpa using c2, by simpa using c3, by simpa using c4⟩

/-- A script that came in. -/
theorem scr_open {H : Type} {enc : TypeId × Value → H} {W : World} {fuel : Nat} {a0 : Option Addr} {len cap : Nat} {d : DataW H} {p : List MemPlace}
    (hf : DataW.trod enc Tryd.prog W 0 (fun _ => true) true fuel 26 [.slice a0 len cap] = some (d, p)) (hw : ∀ k ∈ d.weights Tryd.prog 26, k ≤ reachBytes) : ∃ f, Scr W a0 len f := by
  haveI : Inhabited OpD := ⟨⟨0, 0, 0, 0, ByteArray.empty⟩⟩
  rcases open_slice Tryd.underlying26 hf with ⟨hcs, _⟩ | ⟨a, l, c, m, n, D, Pl, hcs, _, hl, hm, hmm, hx, hat⟩
  · injection hcs with hv
    injection hv with e1 e2 e3
    subst e2
    exact ⟨fun _ => default, by omega, fun i hi => absurd hi (by omega), .inl rfl⟩
  · injection hcs with hv
    injection hv with e1 e2 e3
    subst e1 e2 e3
    simp only [if_true] at hmm
    subst hmm
    simp only [Prod.mk.injEq] at hx
    obtain ⟨hd, hp⟩ := hx
    have hcap : (len + (m - len)) * 48 ≤ reachBytes := by
      refine hw _ ?_
      rw [hd]
      simp [DataW.weights, Tryd.underlying26, Tryd.bytes36]
    have hlen : len ≤ 140737488351232 := by simp only [reachBytes] at hcap; omega
    by_cases h0 : len = 0
    · subst h0
      exact ⟨fun _ => default, by omega, fun i hi => absurd hi (by omega), .inl rfl⟩
    have each : ∀ i, i < len → ∃ o : OpD, OpOk o ∧ W.cell? (a.add (i * 5)) = some (.int .i64 o.kind) ∧ W.cell? (a.add (i * 5 + 1)) = some (.int .i64 o.on) ∧ W.cell? (a.add (i * 5 + 2)) = some (.int .i64 o.size) ∧ W.cell? (a.add (i * 5 + 3)) = some (.int .i64 o.n) ∧ W.cell? (a.add (i * 5 + 4)) = some (.string o.s) := by
      intro i hi
      obtain ⟨cs', g1, g2⟩ := hat i (by omega)
      rw [Tryd.cells36] at g1
      refine op_read g1 g2 (fun k hk => hw k ?_)
      rw [hd]
      simp only [DataW.weights, Tryd.underlying26, List.mem_cons, List.mem_append]
      exact .inr (.inl (weightsAll_mem (List.mem_map.2 ⟨i, List.mem_range.2 hi, rfl⟩) k hk))
    obtain ⟨f, hf'⟩ := choose_lt each
    obtain ⟨b, off, spot⟩ := a
    have hz := (hf' 0 (by omega)).2.1
    have hspot : spot = none := by simpa [Addr.add] using World.cell?_spot hz
    subst hspot
    refine ⟨f, hlen, fun i hi => (hf' i hi).1, .inr ⟨b, off, rfl, World.block_lt_of_cell? W _ (by simpa [Addr.add] using hz), fun i hi => ?_⟩⟩
    obtain ⟨_, q0, q1, q2, q3, q4⟩ := hf' i hi
    rw [addr_add] at q0 q1 q2 q3 q4
    exact ⟨q0, q1, q2, q3, q4⟩
end Go.Proofs.YtonoobjpafhogaaDoor
