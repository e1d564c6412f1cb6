/-
  A function of words as the places at which another value begins. Pure. No condition.
-/
import Derived.Test.YtnfdjbaafiifnaaP22
import Derived.Test.YtnfdjbaafiifnaaP29
namespace Go.Proofs.Ytnfdjbaafiifnaa

/-- One more place at the end, if its value is another. -/
def wiL (C : List (Int × Int)) (c : Int × Int) : List (Int × Int) := match C.getLast? with
  | some d => if d.2 = c.2 then C else C ++ [c]
  | none => [c]
/-- The places of a function up to a word. -/
def cuts (g : Nat → Int) : Nat → List (Int × Int)
  | 0 => []
  | m + 1 => wiL (cuts g m) ((m : Int), g m)
theorem wiL_last (C : List (Int × Int)) (c : Int × Int) : ∃ d, (wiL C c).getLast? = some d ∧ d.2 = c.2 := by
  unfold wiL
  cases h : C.getLast? with
  | none => exact ⟨c, rfl, rfl⟩
  | some d =>
    by_cases hd : d.2 = c.2
    · exact ⟨d, by simp only [hd, if_true]; exact h, hd⟩
    · exact ⟨c, by simp only [hd, if_false]; simp, rfl⟩
theorem wiL_again {C : List (Int × Int)} {c d : Int × Int} (h : ∃ e, C.getLast? = some e ∧ e.2 = d.2) (hc : c.2 = d.2) : wiL C c = C := by
  obtain ⟨e, h1, h2⟩ := h
  unfold wiL
  rw [h1]
  simp only
  rw [if_pos (h2.trans hc.symm)]
/-- A piece of one value is one place. -/
theorem cuts_piece (g : Nat → Int) (l : Int) (m : Nat) : ∀ k, (∀ n, m ≤ n → n < m + (k + 1) → g n = l) → cuts g (m + (k + 1)) = wiL (cuts g m) ((m : Int), l)
  | 0, h => by
    show wiL (cuts g m) ((m : Int), g m) = _
    rw [h m (Nat.le_refl _) (by omega)]
  | k + 1, h => by
    show wiL (cuts g (m + (k + 1))) (((m + (k + 1) : Nat) : Int), g (m + (k + 1))) = _
    rw [cuts_piece g l m k (fun n h1 h2 => h n h1 (by omega)), h (m + (k + 1)) (by omega) (by omega)]
    exact wiL_again (wiL_last (cuts g m) ((m : Int), l)) rfl
theorem cuts_to (g : Nat → Int) {l : Int} {m m' : Nat} (hm : m < m') (h : ∀ n, m ≤ n → n < m' → g n = l) : cuts g m' = wiL (cuts g m) ((m : Int), l) := by
  obtain ⟨k, rfl⟩ : ∃ k, m' = m + (k + 1) := ⟨m' - m - 1, by omega⟩
  exact cuts_piece g l m k h
theorem cuts_congr {g h : Nat → Int} : ∀ m, (∀ n, n < m → g n = h n) → cuts g m = cuts h m
  | 0, _ => rfl
  | m + 1, e => by
    show wiL (cuts g m) _ = wiL (cuts h m) _
    rw [cuts_congr m (fun n hn => e n (by omega)), e m (by omega)]
/-- Where the place behind the i-th is. -/
def nxt (C : List (Int × Int)) (m : Nat) (i : Nat) : Int := ((C[i]?).map (·.1)).getD m
structure Cz (g : Nat → Int) (m : Nat) (C : List (Int × Int)) : Prop where
  ne : 0 < m → C ≠ []
  first : ∀ c : Int × Int, C[0]? = some c → c.1 = 0
  pos : ∀ (i : Nat) (c : Int × Int), C[i]? = some c → 0 ≤ c.1 ∧ c.1 < (m : Int)
  rise : ∀ (i : Nat) (c : Int × Int), C[i]? = some c → c.1 < nxt C m (i + 1)
  seg : ∀ (i : Nat) (c : Int × Int), C[i]? = some c → ∀ n : Nat, c.1 ≤ (n : Int) → (n : Int) < nxt C m (i + 1) → g n = c.2
  unlike : ∀ (i : Nat) (c d : Int × Int), C[i]? = some c → C[i + 1]? = some d → c.2 ≠ d.2
theorem nxt_none {C : List (Int × Int)} {m i : Nat} (h : C.length ≤ i) : nxt C m i = m := by
  unfold nxt
  rw [List.getElem?_eq_none h]
  rfl
theorem nxt_some {C : List (Int × Int)} {m i : Nat} {c : Int × Int} (h : C[i]? = some c) : nxt C m i = c.1 := by
  unfold nxt
  rw [h]
  rfl
theorem cuts_z (g : Nat → Int) : ∀ m, Cz g m (cuts g m)
  | 0 => ⟨fun h => absurd h (by decide), fun c h => (by cases h), fun i c h => (by cases h), fun i c h => (by cases h), fun i c h => (by cases h), fun i c d h => (by cases h)⟩
  | m + 1 => by
    have ih := cuts_z g m
    generalize hC : cuts g m = C at ih
    show Cz g (m + 1) (wiL (cuts g m) ((m : Int), g m))
    rw [hC]
    unfold wiL
    rcases Nat.eq_zero_or_pos C.length with h0 | h0
    · have hn : C = [] := List.eq_nil_of_length_eq_zero h0
      have hm : m = 0 := by
        rcases Nat.eq_zero_or_pos m with h | h
        · exact h
        · exact absurd hn (ih.ne h)
      subst hn hm
      have key : ∀ i (c : Int × Int), [(((0 : Nat) : Int), g 0)][i]? = some c → i = 0 ∧ c = (0, g 0) := fun i c h => by
        cases i with
        | zero => exact ⟨rfl, (Option.some.inj h).symm⟩
        | succ i => simp at h
      refine ⟨fun _ => by simp, fun c h => ?_, fun i c h => ?_, fun i c h => ?_, fun i c h n h1 h2 => ?_, fun i c d h1 h2 => ?_⟩
      · rw [(key 0 c h).2]
      · rw [(key i c h).2]; simp
      · obtain ⟨rfl, rfl⟩ := key i c h
        rw [nxt_none (by simp)]
        simp
      · obtain ⟨rfl, rfl⟩ := key i c h
        rw [nxt_none (by simp)] at h2
        have : n = 0 := by omega
        rw [this]
      · have := (key (i + 1) d h2).1
        omega
    · obtain ⟨e, he⟩ : ∃ e, C[C.length - 1]? = some e := ⟨C[C.length - 1]'(by omega), List.getElem?_eq_getElem _⟩
      have hg : C.getLast? = some e := by rw [List.getLast?_eq_getElem?]; exact he
      have hlt : ∀ (i : Nat) (c : Int × Int), C[i]? = some c → i < C.length := fun i c h => (List.getElem?_eq_some_iff.1 h).1
      rw [hg]
      simp only
      have hpm := ih.pos _ e he
      by_cases hd : e.2 = g m
      · rw [if_pos hd]
        have hnx : ∀ i, i + 1 < C.length → nxt C (m + 1) (i + 1) = nxt C m (i + 1) := fun i h => by
          unfold nxt
          rw [List.getElem?_eq_getElem h]
          rfl
        refine ⟨fun _ => ih.ne (by omega), ih.first, fun i c h => ?_, fun i c h => ?_, fun i c h n h1 h2 => ?_, ih.unlike⟩
        · have := ih.pos i c h
          omega
        · have hi := hlt i c h
          rcases Nat.lt_or_ge (i + 1) C.length with h' | h'
          · rw [hnx i h']; exact ih.rise i c h
          · rw [nxt_none h']
            have := ih.pos i c h
            omega
        · have hi := hlt i c h
          rcases Nat.lt_or_ge (i + 1) C.length with h' | h'
          · rw [hnx i h'] at h2; exact ih.seg i c h n h1 h2
          · rw [nxt_none h'] at h2
            rcases Nat.lt_or_ge n m with hn | hn
            · exact ih.seg i c h n h1 (by rw [nxt_none h']; omega)
            · obtain rfl : n = m := by omega
              obtain rfl : i = C.length - 1 := by omega
              rw [h] at he
              rw [Option.some.inj he]
              exact hd.symm
      · rw [if_neg hd]
        have hl : (C ++ [((m : Int), g m)]).length = C.length + 1 := by simp
        have hget : ∀ (i : Nat) (c : Int × Int), (C ++ [((m : Int), g m)])[i]? = some c → (C[i]? = some c) ∨ (i = C.length ∧ c = ((m : Int), g m)) := fun i c h => by
          rcases Nat.lt_or_ge i C.length with h' | h'
          · rw [List.getElem?_append_left h'] at h
            exact .inl h
          · rw [List.getElem?_append_right h'] at h
            rcases Nat.eq_or_lt_of_le h' with h2 | h2
            · rw [← h2, Nat.sub_self] at h
              exact .inr ⟨h2.symm, (Option.some.inj h).symm⟩
            · rw [List.getElem?_eq_none (by simp; omega)] at h
              cases h
        have hnx : ∀ i, i < C.length → nxt (C ++ [((m : Int), g m)]) (m + 1) (i + 1) = nxt C m (i + 1) := fun i h => by
          rcases Nat.lt_or_ge (i + 1) C.length with h' | h'
          · unfold nxt
            rw [List.getElem?_append_left h', List.getElem?_eq_getElem h']
            rfl
          · rw [nxt_none h']
            unfold nxt
            rw [List.getElem?_append_right h', show i + 1 - C.length = 0 by omega]
            rfl
        refine ⟨fun _ => by simp, fun c h => ?_, fun i c h => ?_, fun i c h => ?_, fun i c h n h1 h2 => ?_, fun i c d h1 h2 => ?_⟩
        · rcases hget 0 c h with h | ⟨h, _⟩
          · exact ih.first c h
          · omega
        · rcases hget i c h with h | ⟨_, rfl⟩
          · have := ih.pos i c h
            omega
          · exact ⟨by show (0 : Int) ≤ (m : Int); omega, by show (m : Int) < ((m + 1 : Nat) : Int); omega⟩
        · rcases hget i c h with h | ⟨rfl, rfl⟩
          · rw [hnx i (hlt i c h)]
            exact ih.rise i c h
          · rw [nxt_none (by rw [hl]; exact Nat.le_refl _)]
            show (m : Int) < _
            omega
        · rcases hget i c h with h | ⟨rfl, rfl⟩
          · rw [hnx i (hlt i c h)] at h2
            exact ih.seg i c h n h1 h2
          · rw [nxt_none (by rw [hl]; exact Nat.le_refl _)] at h2
            have h1 : (m : Int) ≤ n := h1
            obtain rfl : n = m := by omega
            rfl
        · rcases hget i c h1 with h1 | ⟨rfl, rfl⟩
          · rcases hget (i + 1) d h2 with h2 | ⟨h3, rfl⟩
            · exact ih.unlike i c d h1 h2
            · obtain rfl : i = C.length - 1 := by omega
              rw [h1] at he
              rw [Option.some.inj he]
              exact hd
          · rcases hget (C.length + 1) d h2 with h2 | ⟨h3, _⟩
            · have := hlt _ _ h2
              omega
            · omega
theorem wiL_len (C : List (Int × Int)) (c : Int × Int) : (wiL C c).length ≤ C.length + 1 := by
  unfold wiL
  split
  · split
    · omega
    · simp
  · simp
theorem cuts_len (g : Nat → Int) : ∀ m, (cuts g m).length ≤ m
  | 0 => Nat.le_refl _
  | m + 1 => by
    have := cuts_len g m
    have := wiL_len (cuts g m) ((m : Int), g m)
    show (wiL (cuts g m) ((m : Int), g m)).length ≤ _
    omega
end Go.Proofs.Ytnfdjbaafiifnaa
/-
  The document's of, Find by their contracts. Conditions: cuts that begin at 0; no more than a process can hold.
-/
namespace Go.Proofs.Ytnfdjbaafiifnaa
open Go.RowKit Go.Lib

theorem withL_wiL (C : List Ct) (c : Ct) : withL C c = wiL C c := by
  unfold withL wiL
  cases h : C.getLast? with
  | none =>
    have : C = [] := List.getLast?_eq_none_iff.1 h
    subst this
    rfl
  | some d => rfl
/-- The place of the cut that an address is behind. -/
def OfI (C : List Ct) (n : Int) (i : Nat) : Prop := ∃ h : i < C.length, C[i].1 ≤ n ∧ ∀ h' : i + 1 < C.length, n < C[i + 1].1
theorem ct_at {w : World} {base g cap n : Nat} {C : List Ct} (h : w.ownsRow base 75 2 (.slice (some ⟨g, 0, none⟩) n cap) n (ctCells C)) {i : Nat} (hi : i < C.length) :
    w.cell? ⟨g, i * 2, none⟩ = some (.int .i64 C[i].1) ∧ w.cell? ⟨g, i * 2 + 1, none⟩ = some (.int .i64 C[i].2) := by
  obtain ⟨h1, h2⟩ := ctCells_get C i hi
  have k1 := h.cells (g := g) rfl (i * 2) _ h1
  have k2 := h.cells (g := g) rfl (i * 2 + 1) _ h2
  rw [show (⟨g, 0, none⟩ : Addr).add (i * 2) = ⟨g, 0 + i * 2, none⟩ by unfold Addr.add; split <;> simp_all, Nat.zero_add] at k1
  rw [show (⟨g, 0, none⟩ : Addr).add (i * 2 + 1) = ⟨g, 0 + (i * 2 + 1), none⟩ by unfold Addr.add; split <;> simp_all, Nat.zero_add] at k2
  exact ⟨k1, k2⟩
set_option maxHeartbeats 1000000 in
set_option maxRecDepth 100000 in
theorem of_any {w : World} {b base : Nat} {v : Value} {C : List Ct} (hb : w.heap[b]? = some (.cells #[v] 78 (0, 0))) (hC : OwnC w base v C) (n : Int) (h0 : ∃ h : 0 < C.length, C[0].1 ≤ n) (hl : C.length ≤ 4294967296) :
    Calls Try.prog 48 #[.pointer (some ⟨b, 0, none⟩), .int .i64 n] w fun e w' => (∃ i : Nat, e = .returned (.int .i64 (i : Nat)) ∧ OfI C n i) ∧ w' = w := by
  obtain ⟨hpos, h0⟩ := h0
  obtain ⟨ao, cap, e1, hg⟩ := own_shape hC
  obtain ⟨g, e2⟩ := hg hpos
  subst e1 e2
  have c0 := cell_of_row _ _ 0 _ _ _ hb
  simp only [List.getElem?_toArray, List.getElem?_cons_zero] at c0
  have HC := hide hC
  clear hC hg hb
  go_enter Try.func48, Try.ntmps48
  go_wp2
  go_loopg [5, 6] (C.length + 1) (fun g x y wr => ∃ i j : Nat, x = .int .i64 (i : Nat) ∧ y = .int .i64 (j : Nat) ∧ i < j ∧ j ≤ C.length ∧ Hid (∃ h : i < C.length, C[i].1 ≤ n) ∧ Hid (∀ h : j < C.length, n < C[j].1) ∧ wr = w ∧ j - i < g)
  case atStart => exact ⟨0, C.length, rfl, rfl, hpos, Nat.le_refl _, ⟨hpos, h0⟩, fun h => absurd h (by omega), rfl, by omega⟩
  case round =>
    obtain ⟨i, j, rfl, rfl, hij, hj, HI, HJ, hw, hg⟩ := hrel
    have hw := hw.symm
    subst hw
    have HG := hide hg
    clear hg
    have f1 : IntKind.i64.wrap ((j : Int) - (i : Int)) = (j : Int) - (i : Int) := by simp [IntKind.wrap, IntKind.bits, IntKind.signed]; omega
    by_cases hm : 1 < j - i
    · have hm' : (1 : Int) < (j : Int) - (i : Int) := by omega
      have f2 : IntKind.i64.wrap ((i : Int) + (j : Int)) = (i : Int) + (j : Int) := by simp [IntKind.wrap, IntKind.bits, IntKind.signed]; omega
      obtain ⟨m, hmd⟩ : ∃ m : Nat, m = (i + j) / 2 := ⟨_, rfl⟩
      have f3 : ((i : Int) + (j : Int)).tdiv 2 = (m : Int) := by rw [Int.tdiv_eq_ediv_of_nonneg (by omega)]; omega
      have f4 : IntKind.i64.wrap (m : Int) = (m : Int) := by simp [IntKind.wrap, IntKind.bits, IntKind.signed]; omega
      have hmi : i < m := by omega
      have hmj : m < j := by omega
      have hmC : m < C.length := by omega
      have hmC' : (m : Int) < (C.length : Int) := by omega
      obtain ⟨c1, _⟩ := ct_at HC.out hmC
      clear hmd
      obtain ⟨z, hz⟩ : ∃ z, C[m].1 = z := ⟨_, rfl⟩
      rw [hz] at c1
      by_cases hle : z ≤ n
      · have HI2 : Hid (∃ h : m < C.length, C[m].1 ≤ n) := ⟨hmC, by rw [hz]; exact hle⟩
        clear hz
        go_wp2
        go_roundg (j - m + 1)
        case measure => have := HG.out; omega
        case rel => exact ⟨m, j, rfl, rfl, hmj, hj, HI2, HJ, rfl, by omega⟩
      · have HJ2 : Hid (∀ h : m < C.length, n < C[m].1) := fun _ => by rw [hz]; omega
        clear hz
        go_wp2
        go_roundg (m - i + 1)
        case measure => have := HG.out; omega
        case rel => exact ⟨i, m, rfl, rfl, hmi, by omega, HI, HJ2, rfl, by omega⟩
    · have hm' : ¬ (1 : Int) < (j : Int) - (i : Int) := by omega
      obtain rfl : j = i + 1 := by omega
      go_wp2
      go_ret
      obtain ⟨q1, q2⟩ := HI.out
      exact ⟨⟨i, rfl, q1, q2, fun h' => HJ.out h'⟩, rfl⟩
end Go.Proofs.Ytnfdjbaafiifnaa
