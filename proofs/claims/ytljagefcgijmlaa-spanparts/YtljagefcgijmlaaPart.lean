/-
  places by its contract; parts of all numbers, and lists of parts as they lie in memory. Condition: at most 2^31 lists.
-/
import Derived.Test.YtljagefcgijmlaaOps
import Derived.Deep.AppendLies
namespace Go.Proofs.Ytljagefcgijmlaa
open Go.RowKit Go.Lib

/-- The places that are marked, among the first k. -/
def marksTo (l : List Bool) (k : Nat) : List Nat := (List.range k).filter fun j => l.getD j false
theorem marksTo_succ (l : List Bool) (k : Nat) : marksTo l (k + 1) = marksTo l k ++ if l.getD k false = true then [k] else [] := by
  unfold marksTo
  rw [List.range_succ, List.filter_append]
  congr 1
  by_cases h : l.getD k false = true
  · rw [if_pos h]; exact List.filter_cons_of_pos h
  · rw [if_neg h]; exact List.filter_cons_of_neg h
theorem marksTo_length (l : List Bool) (k : Nat) : (marksTo l k).length ≤ k := by
  have := List.length_filter_le (fun j => l.getD j false) (List.range k)
  rw [List.length_range] at this
  exact this
def intCells (I : List Nat) : List Value := I.map fun k => .int .i64 (k : Nat)
/-- A list of numbers of the call's own. -/
def OwnI (w : World) (base : Nat) (v : Value) (I : List Nat) : Prop := w.ownsRow base 3 1 v I.length (intCells I)
theorem OwnI.kept {F : Nat → Prop} {w w' : World} {base : Nat} {v : Value} {I : List Nat} (h : OwnI w base v I) (hk : Kept F w w') (hF : ∀ k, v.ownBlock = some k → ¬ F k) : OwnI w' base v I := by
  refine ⟨h.1, ?_⟩
  rcases h.2 with hn | ⟨g, cap, cur, rfl, hb, hg, r⟩
  · exact .inl hn
  · exact .inr ⟨g, cap, cur, rfl, hb, (hk.block g (lt_of_block hg) (hF g rfl)).trans hg, r⟩
theorem OwnI.below {w w' : World} {base : Nat} {v : Value} {I : List Nat} (h : OwnI w base v I) (hb : Below w.heap.size w w') : OwnI w' base v I :=
  h.kept (F := fun _ => False) (Kept.of_below hb) (fun _ _ h => h)
theorem OwnI.mono {w : World} {base base' : Nat} {v : Value} {I : List Nat} (h : OwnI w base v I) (hb : base' ≤ base) : OwnI w base' v I := by
  refine ⟨h.1, ?_⟩
  rcases h.2 with hn | ⟨g, cap, cur, rfl, hb', r⟩
  · exact .inl hn
  · exact .inr ⟨g, cap, cur, rfl, Nat.le_trans hb hb', r⟩
theorem OwnI.shape {w : World} {base : Nat} {v : Value} {I : List Nat} (h : OwnI w base v I) : ∃ ao cap, v = .slice ao I.length cap := by
  rcases h.2 with ⟨rfl, hn⟩ | ⟨g, cap, cur, rfl, _⟩
  · exact ⟨none, 0, by rw [hn]⟩
  · exact ⟨_, cap, rfl⟩
theorem OwnI.tag {w : World} {base : Nat} {v : Value} {I : List Nat} (h : OwnI w base v I) {k : Nat} (hk : v.ownBlock = some k) : base ≤ k ∧ k < w.heap.size ∧ ∃ cs, w.heap[k]? = some (.cells cs 3 (0, 0)) := by
  rcases h.2 with ⟨rfl, _⟩ | ⟨g, cap, cur, rfl, hb, hg, r⟩
  · cases hk
  · cases hk; exact ⟨hb, lt_of_block hg, cur, hg⟩
theorem Try.info3 : (Try.prog.info? 3).map (fun i => (i.zero, i.size, i.bytes)) = some (some (.int .i64 0), 1, 8) := by kernel_rfl

theorem new_int (w0 : World) (k : Nat) (b : Nat) (hb : b = w0.heap.size) : ∀ j u, ([.int .i64 (k : Nat)] : List Value)[j]? = some u → (w0.alloc (.cells #[.int .i64 (k : Nat)] 3)).cell? ((⟨b, 0, none⟩ : Addr).add j) = some u := by
  subst hb
  intro j u hu
  match j, hu with
  | 0, hu => simp at hu; subst hu; simp [Addr.add]

set_option maxRecDepth 100000 in
set_option maxHeartbeats 1000000 in
theorem places_any (w : World) (ib n : Nat) (ins : List Bool) (hn : ins.length = n) (hlen : n ≤ 2147483648) (hb : w.heap[ib]? = some (.cells (bools ins) 4 (0, 0))) :
    Calls Try.prog 55 #[.slice (some ⟨ib, 0, none⟩) n n] w fun e w' => ∃ v, e = .returned v ∧ OwnI w' w.heap.size v (marksTo ins n) ∧ Below w.heap.size w w' := by
  obtain ⟨i0, hi, hz0, hz1, hz2⟩ := info_parts Try.info3
  have lib := lt_of_block hb
  have HB := hide hb
  clear hb
  go_enter Try.func55, Try.ntmps55
  go_wp2
  go_loopw [3, 8] (fun o i wr => ∃ k : Nat, k ≤ n ∧ i = .int .i64 k ∧ Hid (OwnI wr w.heap.size o (marksTo ins k)) ∧ Below w.heap.size w wr) (fun _ i _ => n - (intOf i).toNat)
  case atStart => exact ⟨0, Nat.zero_le _, rfl, World.ownsRow_nil _ _ _ _, Below.refl _ _⟩
  case round =>
    obtain ⟨k, hk, rfl, ho, hq⟩ := hrel
    have HQ := hide hq
    clear hq
    by_cases hlt : k < n
    · have c0 : wr.cell? ⟨ib, k, none⟩ = some (.bool (ins.getD k false)) := by
        rw [HQ.out.cell (p := ⟨ib, k, none⟩) lib, cell_of_row w _ _ _ _ _ HB.out]
        exact bools_get ins k (by omega)
      have hms := marksTo_succ ins k
      have hml := marksTo_length ins k
      by_cases hbv : ins.getD k false = true
      · rw [if_pos hbv] at hms
        rw [hbv] at c0
        have HMS := hide hms
        have hb1 : Below w.heap.size w (wr.alloc (.cells #[.int .i64 (k : Nat)] 3)) := HQ.out.trans (((Below.refl _ _).alloc (Nat.le_refl _) _).mono HQ.out.size)
        have HB1 := hide hb1
        have HN := hide (new_int wr k wr.heap.size rfl)
        have HO := hide (ho.out.below ((Below.refl wr.heap.size wr).alloc (Nat.le_refl _) (.cells #[.int .i64 (k : Nat)] 3)))
        clear hms hb1 ho hbv
        go_wp2_with (at_builtin; refine wpList_append_own_at _ rfl (.tmp 14) (.tmp 16) 48 rfl w.heap.size 3 i0 (.int .i64 0) 1 8 Try.underlying48 hi hz0 hz1 hz2 rfl (by decide) _ (marksTo ins k).length (intCells (marksTo ins k)) rfl HO.out ⟨wr.heap.size, 0, none⟩ 1 1 [.int .i64 (k : Nat)] rfl rfl HN.out (by simp [Value.oneCell']) (by unfold maxLen; omega) (by omega) HB1.out.size ?_; intro v8 w8 h1 h2 _ h3; have H1 := hide h1; have H2 := hide h2; clear h1 h2 h3)
        go_roundw
        case rel =>
          refine ⟨k + 1, by omega, by go_num, ?_, HB1.out.grown H2.out HB1.out.size (fun i hi => ?_)⟩
          · rw [HMS.out]
            have := H1.out
            unfold Hid OwnI
            rw [List.length_append]
            simpa [intCells] using this
          · exact (HO.out.tag hi).1
        case measure => simp [intOf]; omega
      · rw [if_neg hbv, List.append_nil] at hms
        rw [Bool.not_eq_true] at hbv
        rw [hbv] at c0
        have HMS := hide hms
        clear hms hbv
        go_wp2
        go_roundw
        case rel => exact ⟨k + 1, by omega, by go_num, by rw [HMS.out]; exact ho.out, HQ.out⟩
        case measure => simp [intOf]; omega
    · have h8 : k = n := by omega
      subst h8
      go_wp2
      go_ret
      exact ⟨_, rfl, ho.out, HQ.out⟩

/-- The places of the sets that have a number. -/
def inOf (S : List (List Spn)) (n : Int) : List Nat := (List.range S.length).filter fun k => memB n (S.getD k [])
theorem marks_inOf {S : List (List Spn)} {lo hi : Int} {ins : List Bool} (p : Piece S lo hi ins) {n : Int} (h1 : lo ≤ n) (h2 : n ≤ hi) : marksTo ins S.length = inOf S n := by
  unfold marksTo inOf
  refine List.filter_congr fun k hk => ?_
  rw [List.mem_range] at hk
  exact (p.says k hk n h1 h2).symm
/-- Spans that rise and leave nothing out, from a up to b. -/
def Chain : Int → List (Spn × List Nat) → Int → Prop
  | a, [], b => a = b
  | a, q :: Q, b => q.1.1 = a ∧ a ≤ q.1.2 ∧ Chain (q.1.2 + 1) Q b
theorem Chain.snoc : ∀ {a : Int} {Q : List (Spn × List Nat)} {b : Int} {q : Spn × List Nat}, Chain a Q b → q.1.1 = b → b ≤ q.1.2 → Chain a (Q ++ [q]) (q.1.2 + 1)
  | a, [], b, q, h, h1, h2 => by
    have h : a = b := h
    subst h
    exact ⟨h1, h2, rfl⟩
  | a, r :: Q, b, q, h, h1, h2 => ⟨h.1, h.2.1, Chain.snoc h.2.2 h1 h2⟩
/-- The parts of the numbers below lo. -/
structure PParts (S : List (List Spn)) (lo : Int) (Q : List (Spn × List Nat)) : Prop where
  chain : Chain 0 Q lo
  each : ∀ q ∈ Q, ∀ n, q.1.1 ≤ n → n ≤ q.1.2 → q.2 = inOf S n
  edge : ∀ q ∈ Q, Edge S q.1.1
  top : ∀ q ∈ Q, q.1.2 ≤ 4294967295
theorem PParts.start (S : List (List Spn)) : PParts S 0 [] := ⟨rfl, fun q hq => (by cases hq), fun q hq => (by cases hq), fun q hq => (by cases hq)⟩
theorem PParts.step {S : List (List Spn)} {lo hi : Int} {ins : List Bool} {Q : List (Spn × List Nat)} (h : PParts S lo Q) (p : Piece S lo hi ins) (he : Edge S lo) : PParts S (hi + 1) (Q ++ [((lo, hi), marksTo ins S.length)]) := by
  refine ⟨h.chain.snoc rfl p.le, fun q hq => ?_, fun q hq => ?_, fun q hq => ?_⟩
  · rcases List.mem_append.1 hq with h1 | h1
    · exact h.each q h1
    · rw [List.mem_singleton.1 h1]; exact fun n h1 h2 => marks_inOf p h1 h2
  · rcases List.mem_append.1 hq with h1 | h1
    · exact h.edge q h1
    · rw [List.mem_singleton.1 h1]; exact he
  · rcases List.mem_append.1 hq with h1 | h1
    · exact h.top q h1
    · rw [List.mem_singleton.1 h1]; exact p.top
theorem Chain.bound : ∀ {a : Int} {Q : List (Spn × List Nat)} {b : Int}, Chain a Q b → a ≤ b ∧ (Q.length : Int) ≤ b - a
  | a, [], b, h => by have h : a = b := h; subst h; simp
  | a, q :: Q, b, h => by
    have := Chain.bound h.2.2
    have := h.2.1
    simp only [List.length_cons]
    omega

/-- A part as it lies in memory. -/
structure PartD where
  s : Spn
  v : Value
  I : List Nat
def ptCells (P : List PartD) : List Value := P.flatMap fun p => [.int .i64 p.s.1, .int .i64 p.s.2, p.v]
theorem ptCells_snoc (P : List PartD) (p : PartD) : ptCells (P ++ [p]) = ptCells P ++ [.int .i64 p.s.1, .int .i64 p.s.2, p.v] := by simp [ptCells]
theorem ptCells_length (P : List PartD) : (ptCells P).length = P.length * 3 := by
  induction P with
  | nil => rfl
  | cons p P ih =>
    have : ptCells (p :: P) = [.int .i64 p.s.1, .int .i64 p.s.2, p.v] ++ ptCells P := by simp [ptCells]
    rw [this, List.length_append, ih, List.length_cons]
    simp only [List.length_cons, List.length_nil]
    omega
def bare (P : List PartD) : List (Spn × List Nat) := P.map fun p => (p.s, p.I)
/-- A list of parts of the call's own. -/
structure OwnP (w : World) (base : Nat) (v : Value) (P : List PartD) : Prop where
  row : w.ownsRow base 50 3 v P.length (ptCells P)
  ints : ∀ p ∈ P, OwnI w base p.v p.I
  apart : P.Pairwise (fun p q => ∀ k, p.v.ownBlock = some k → ¬ q.v.ownBlock = some k)
theorem OwnP.nil (w : World) (base : Nat) : OwnP w base (.slice none 0 0) [] := ⟨World.ownsRow_nil w base 50 3, fun p hp => (by cases hp), List.Pairwise.nil⟩
theorem OwnP.tag {w : World} {base : Nat} {v : Value} {P : List PartD} (h : OwnP w base v P) {k : Nat} (hk : v.ownBlock = some k) : base ≤ k ∧ k < w.heap.size ∧ ∃ cs, w.heap[k]? = some (.cells cs 50 (0, 0)) := by
  rcases h.row.2 with ⟨rfl, _⟩ | ⟨g, cap, cur, rfl, hb, hg, r⟩
  · cases hk
  · cases hk; exact ⟨hb, lt_of_block hg, cur, hg⟩
theorem OwnP.kept {F : Nat → Prop} {w w' : World} {base : Nat} {v : Value} {P : List PartD} (h : OwnP w base v P) (hk : Kept F w w') (hF : ∀ k, F k → k < base ∨ ∃ cs T, w.heap[k]? = some (.cells cs T (0, 0)) ∧ T ≠ 50 ∧ T ≠ 3) : OwnP w' base v P := by
  refine ⟨⟨h.row.1, ?_⟩, fun p hp => (h.ints p hp).kept hk fun k hk' hf => ?_, h.apart⟩
  · rcases h.row.2 with hn | ⟨g, cap, cur, rfl, hb, hg, r⟩
    · exact .inl hn
    · refine .inr ⟨g, cap, cur, rfl, hb, (hk.block g (lt_of_block hg) (fun hf => ?_)).trans hg, r⟩
      rcases hF g hf with h1 | ⟨cs, T, h1, h2, _⟩
      · omega
      · rw [hg] at h1; simp at h1; exact h2 h1.2.symm
  · obtain ⟨t1, t2, cs, t3⟩ := (h.ints p hp).tag hk'
    rcases hF k hf with h1 | ⟨cs', T, h1, _, h2⟩
    · omega
    · rw [t3] at h1; simp at h1; exact h2 h1.2.symm
theorem OwnP.below {w w' : World} {base : Nat} {v : Value} {P : List PartD} (h : OwnP w base v P) (hb : Below w.heap.size w w') : OwnP w' base v P :=
  h.kept (F := fun _ => False) (Kept.of_below hb) (fun _ h => h.elim)
theorem OwnP.mono {w : World} {base base' : Nat} {v : Value} {P : List PartD} (h : OwnP w base v P) (hb : base' ≤ base) : OwnP w base' v P := by
  refine ⟨⟨h.row.1, ?_⟩, fun p hp => (h.ints p hp).mono hb, h.apart⟩
  rcases h.row.2 with hn | ⟨g, cap, cur, rfl, hb', r⟩
  · exact .inl hn
  · exact .inr ⟨g, cap, cur, rfl, Nat.le_trans hb hb', r⟩
/-- Behind an append of one part. -/
theorem OwnP.snoc {w w' : World} {base : Nat} {v v' : Value} {P : List PartD} {p : PartD} (h : OwnP w base v P) (hp : OwnI w base p.v p.I) (hnew : ∀ q ∈ P, ∀ k, q.v.ownBlock = some k → ¬ p.v.ownBlock = some k) (h1 : w'.ownsRow base 50 3 v' (P.length + 1) (ptCells P ++ [.int .i64 p.s.1, .int .i64 p.s.2, p.v])) (h2 : w.grownBy w' v.ownBlock) : OwnP w' base v' (P ++ [p]) := by
  have hk : Kept (fun k => v.ownBlock = some k) w w' := (Kept.refl _ _).grown h2 (fun k hk => hk)
  have ne : ∀ q : Value × List Nat, OwnI w base q.1 q.2 → ∀ k, q.1.ownBlock = some k → ¬ v.ownBlock = some k := fun q hq k h3 h4 => by
    obtain ⟨_, _, cs, t3⟩ := hq.tag h3
    obtain ⟨_, _, cs', t4⟩ := h.tag h4
    rw [t3] at t4
    simp at t4
  refine ⟨by rw [ptCells_snoc, List.length_append]; exact h1, fun q hq => ?_, by rw [List.pairwise_append]; exact ⟨h.apart, List.pairwise_singleton .., fun x hx y hy => by rw [List.mem_singleton.1 hy]; exact hnew x hx⟩⟩
  rcases List.mem_append.1 hq with h5 | h5
  · exact (h.ints q h5).kept hk (ne (q.v, q.I) (h.ints q h5))
  · rw [List.mem_singleton.1 h5]; exact hp.kept hk (ne (p.v, p.I) hp)
theorem Try.info50 : (Try.prog.info? 50).map (fun i => (i.zero, i.size, i.bytes)) = some (some (.agg #[.int .i64 0, .int .i64 0, .slice none 0 0]), 3, 40) := by kernel_rfl
end Go.Proofs.Ytljagefcgijmlaa
