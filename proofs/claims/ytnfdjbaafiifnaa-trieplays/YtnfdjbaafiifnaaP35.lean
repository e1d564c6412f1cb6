/-
  The document's New, Find, Rows by their contracts. No condition.
-/
import Derived.Test.YtnfdjbaafiifnaaP34
import Derived.Test.YtnfdjbaafiifnaaP27
namespace Go.Proofs.Ytnfdjbaafiifnaa
open Go.RowKit Go.Lib

/-- The document's trie at block b says g. -/
def DtAt (w : World) (b : Nat) (g : Nat → Int) : Prop := ∃ v base m, m = 4294967296 ∧ w.heap[b]? = some (.cells #[v] 78 (0, 0)) ∧ OwnC w base v (cuts g m)
theorem DtAt.below {w w' : World} {b : Nat} {g : Nat → Int} (h : DtAt w b g) (x : Below w.heap.size w w') : DtAt w' b g := by
  obtain ⟨v, base, m, hm, h1, h2⟩ := h
  exact ⟨v, base, m, hm, (x.block b (lt_of_block h1)).trans h1, own_below h2 x⟩
theorem DtAt.congr {w : World} {b : Nat} {g g' : Nat → Int} (h : DtAt w b g) (e : ∀ n, n < 4294967296 → g n = g' n) : DtAt w b g' := by
  obtain ⟨v, base, m, hm, h1, h2⟩ := h
  exact ⟨v, base, m, hm, h1, by rw [← cuts_congr m (fun n hn => e n (by omega))]; exact h2⟩
theorem cuts_zero {g : Nat → Int} {m : Nat} (hm : 0 < m) : ∃ h : 0 < (cuts g m).length, (cuts g m)[0].1 = 0 := by
  have hz := cuts_z g m
  have hne := hz.ne hm
  have hpos : 0 < (cuts g m).length := by
    cases h : cuts g m with
    | nil => exact absurd h hne
    | cons a L => simp
  exact ⟨hpos, hz.first _ (List.getElem?_eq_getElem hpos)⟩
theorem Cz.mono {g : Nat → Int} {m : Nat} {C : List Ct} (h : Cz g m C) : ∀ (d i : Nat) (hj : i + d < C.length), (C[i]'(by omega)).1 ≤ C[i + d].1
  | 0, _, _ => Int.le_refl _
  | d + 1, i, hj => by
    have h1 := Cz.mono h d i (by omega)
    have h2 := h.rise (i + d) _ (List.getElem?_eq_getElem (by omega))
    rw [nxt_some (List.getElem?_eq_getElem (show i + d + 1 < C.length from hj))] at h2
    exact Int.le_trans h1 (Int.le_of_lt h2)
theorem OfI.unique {g : Nat → Int} {m : Nat} {C : List Ct} (hz : Cz g m C) {n : Int} {i j : Nat} (h1 : OfI C n i) (h2 : OfI C n j) : i = j := by
  obtain ⟨a1, a2, a3⟩ := h1
  obtain ⟨b1, b2, b3⟩ := h2
  rcases Nat.lt_trichotomy i j with h | h | h
  · exfalso
    have := a3 (by omega)
    have h3 := hz.mono (j - (i + 1)) (i + 1) (by omega)
    simp only [show i + 1 + (j - (i + 1)) = j by omega] at h3
    omega
  · exact h
  · exfalso
    have := b3 (by omega)
    have h3 := hz.mono (i - (j + 1)) (j + 1) (by omega)
    simp only [show j + 1 + (i - (j + 1)) = i by omega] at h3
    omega
theorem ofI_ex {C : List Ct} {n : Int} (h0 : ∃ h : 0 < C.length, C[0].1 ≤ n) : ∃ i, OfI C n i := by
  obtain ⟨hpos, h0⟩ := h0
  have key : ∀ k, 0 < k → k ≤ C.length → ∃ i, ∃ h : i < C.length, i < k ∧ C[i].1 ≤ n ∧ ∀ h' : i + 1 < C.length, i + 1 < k → n < C[i + 1].1 := by
    intro k
    induction k with
    | zero => intro h; omega
    | succ k ih =>
      intro _ hk
      rcases Nat.eq_zero_or_pos k with rfl | hk0
      · exact ⟨0, hpos, by omega, h0, fun _ h => by omega⟩
      · obtain ⟨i, h1, h2, h3, h4⟩ := ih hk0 (by omega)
        by_cases hc : (C[k]'(by omega)).1 ≤ n
        · exact ⟨k, by omega, by omega, hc, fun _ h => by omega⟩
        · refine ⟨i, h1, by omega, h3, fun h' h5 => ?_⟩
          by_cases h6 : i + 1 < k
          · exact h4 h' h6
          · have e : i + 1 = k := by omega
            simp only [e]
            omega
  obtain ⟨i, h1, h2, h3, h4⟩ := key C.length hpos (Nat.le_refl _)
  exact ⟨i, h1, h3, fun h' => h4 h' h'⟩
/-- Where of tells that an address is. -/
theorem ofD {w : World} {b base : Nat} {v : Value} {g : Nat → Int} {m : Nat} (hm : m = 4294967296) (h1 : w.heap[b]? = some (.cells #[v] 78 (0, 0))) (h2 : OwnC w base v (cuts g m)) (n : Int) (n0 : 0 ≤ n) {i : Nat} (hi : OfI (cuts g m) n i) :
    Calls Try.prog 48 #[.pointer (some ⟨b, 0, none⟩), .int .i64 n] w fun e w' => e = .returned (.int .i64 (i : Nat)) ∧ w' = w := by
  have hl := cuts_len g m
  obtain ⟨hpos, hC0⟩ := cuts_zero (g := g) (m := m) (by omega)
  refine (of_any h1 h2 n ⟨hpos, by rw [hC0]; exact n0⟩ (by omega)).mono ?_
  rintro e w' ⟨⟨j, rfl, hj⟩, rfl⟩
  rw [OfI.unique (cuts_z g m) hi hj]
  exact ⟨rfl, rfl⟩
/-- .. and what label is there. -/
theorem ofD_lab {g : Nat → Int} {m : Nat} {n : Int} (n0 : 0 ≤ n) (n1 : n < m) {i : Nat} (hi : OfI (cuts g m) n i) : ∃ h : i < (cuts g m).length, (cuts g m)[i].2 = g n.toNat := by
  obtain ⟨c, hc, hc1, hc2⟩ := hi.get
  obtain ⟨hil, hce⟩ := List.getElem?_eq_some_iff.1 hc
  refine ⟨hil, ?_⟩
  rw [hce]
  exact ((cuts_z g m).seg i c hc n.toNat (by omega) (by have := hc2 m (by omega); omega)).symm
set_option maxHeartbeats 1000000 in
set_option maxRecDepth 100000 in
theorem rowsD {w : World} {b : Nat} {g : Nat → Int} (h : DtAt w b g) : Calls Try.prog 31 #[.pointer (some ⟨b, 0, none⟩)] w fun e w' => (∃ l, e = .returned l ∧ OwnR w' w.heap.size l (rowsF g 32 0 0)) ∧ Below w.heap.size w w' := by
  obtain ⟨v, base, m, hm, h1, h2⟩ := h
  have hl := cuts_len g m
  have HC := hide (rowsD_any hm (cuts_z g m) (by omega) h2 h1 32 0 0 [] (.slice none 0 0) w rfl (by rw [hm]; decide) (Nat.le_refl _) (Below.refl _ _) (World.ownsRow_nil _ _ _ _))
  have HC2 : Hid (Calls Try.prog 52 #[.pointer (some ⟨b, 0, none⟩), .slice none 0 0, .agg #[.int .i64 0, .int .i64 0]] w fun e w' => (∃ l', e = .returned l' ∧ OwnR w' w.heap.size l' (rowsF g 32 0 0)) ∧ Below w.heap.size w w' ∧ KeepT w w') := HC.out
  clear HC h1 h2 hl hm
  generalize rowsF g 32 0 0 = R at *
  go_enter Try.func31, Try.ntmps31
  go_wp2_with (go_at_call 52; refine HC2.out.mono ?_; rintro e w2 ⟨⟨l2, rfl, ho⟩, x, -⟩; have HO := hide ho; have X := hide x; clear ho x)
  go_ret
  exact ⟨⟨_, rfl, HO.out⟩, X.out⟩
/-- What Find tells. -/
def FdD (g : Nat → Int) (n : Int) (e : Ending) : Prop := ((0 ≤ n ∧ n ≤ 4294967295) → e = .returned (.tuple #[.int .i64 (g n.toNat), .int .i64 0])) ∧ (¬ (0 ≤ n ∧ n ≤ 4294967295) → e = .returned (.tuple #[.int .i64 0, .int .i64 1]))
set_option maxHeartbeats 1000000 in
set_option maxRecDepth 100000 in
theorem findD_any {w : World} {b : Nat} {g : Nat → Int} (n : Int) (h : DtAt w b g) : Calls Try.prog 29 #[.pointer (some ⟨b, 0, none⟩), .int .i64 n] w fun e w' => FdD g n e ∧ Below w.heap.size w w' := by
  by_cases hn : 0 ≤ n ∧ n ≤ 4294967295
  · obtain ⟨n0, n1⟩ := hn
    obtain ⟨v, base, m, hm, h1, h2⟩ := h
    have hl := cuts_len g m
    obtain ⟨hpos, hC0⟩ := cuts_zero (g := g) (m := m) (by omega)
    obtain ⟨i, hi⟩ := ofI_ex (C := cuts g m) (n := n) ⟨hpos, by rw [hC0]; exact n0⟩
    obtain ⟨hil, hlab⟩ := ofD_lab n0 (by omega) hi
    obtain ⟨ao, cap, e1, hgo⟩ := own_shape h2
    obtain ⟨gr, e2⟩ := hgo hpos
    subst e1 e2
    have HOF : Hid (∀ V, Below w.heap.size w V → Calls Try.prog 48 #[.pointer (some ⟨b, 0, none⟩), .int .i64 n] V fun e w' => e = .returned (.int .i64 (i : Nat)) ∧ w' = V) := fun V y => ofD hm ((y.block b (lt_of_block h1)).trans h1) (own_below h2 y) n n0 hi
    have HRD : Hid (∀ V, Below w.heap.size w V → V.cell? ⟨b, 0, none⟩ = some (.slice (some ⟨gr, 0, none⟩) (cuts g m).length cap) ∧ V.cell? ⟨gr, i * 2 + 1, none⟩ = some (.int .i64 (g n.toNat))) := fun V y => by
      refine ⟨?_, ?_⟩
      · rw [cell_of_row _ _ _ _ _ _ ((y.block b (lt_of_block h1)).trans h1)]; rfl
      · rw [(ct_at (own_below h2 y) hil).2, hlab]
    have hil' : (i : Int) < ((cuts g m).length : Int) := by omega
    have HDr : Hid (Below w.heap.size w w.drew) := (Below.refl _ _).drew
    clear h1 h2 hgo hC0 hi hlab
    generalize cuts g m = C at *
    have HFD : Hid (∀ lb e, lb = g n.toNat → e = .returned (.tuple #[.int .i64 lb, .int .i64 0]) → FdD g n e) := fun lb e h1 h2 => ⟨fun _ => by rw [h2, h1], fun h => absurd ⟨n0, n1⟩ h⟩
    obtain ⟨lb, hlb⟩ : ∃ lb, lb = g n.toNat := ⟨_, rfl⟩
    rw [← hlb] at HRD
    have HFE := hide (fun e => HFD.out lb e hlb)
    clear HFD hlb
    have hn1 : ¬ n < 0 := by omega
    have hn2 : ¬ 4294967295 < n := by omega
    clear hm
    go_enter Try.func29, Try.ntmps29
    go_upto_region 3 with fail
    refine wp_region_quiet (C := fun w' => Below w.heap.size w w') (by kernel_rfl) (by kernel_rfl) HDr.out ?_
    refine QW.out (l := _ :: _) ?_
    iterate 6 (refine QW.take (by rfl) ?_; apply Exists.intro; refine ⟨fun w' hw' => ?_, ?_⟩; (· (obtain ⟨g1, g2⟩ := HRD.out w' hw'; go_simp; first | done | rfl)); try simp only [Act.put, List.setIfInBounds_toArray, List.set_cons_zero, List.set_cons_succ])
    iterate 1 (refine QW.take (by rfl) ?_; apply Exists.intro; refine ⟨fun w' hw' => ?_, ?_⟩; (· (obtain ⟨g1, g2⟩ := HRD.out w' hw'; go_simp; (refine (HOF.out _ hw').mono ?_; rintro e w2 ⟨rfl, rfl⟩; exact ⟨rfl, hw'⟩))); try simp only [Act.put, List.setIfInBounds_toArray, List.set_cons_zero, List.set_cons_succ])
    iterate 5 (refine QW.take (by rfl) ?_; apply Exists.intro; refine ⟨fun w' hw' => ?_, ?_⟩; (· (obtain ⟨g1, g2⟩ := HRD.out w' hw'; go_simp; first | done | rfl)); try simp only [Act.put, List.setIfInBounds_toArray, List.set_cons_zero, List.set_cons_succ])
    refine QW.nil ?_
    intro w7 x7
    have X7 := hide x7
    clear x7
    go_wp2
    go_ret2
    exact ⟨HFE.out _ rfl, X7.out⟩
  · clear h
    have HFE : Hid (∀ e, e = .returned (.tuple #[.int .i64 0, .int .i64 1]) → FdD g n e) := fun e h2 => ⟨fun h => absurd h hn, fun _ => h2⟩
    by_cases h0 : n < 0
    · go_enter Try.func29, Try.ntmps29
      go_wp2
      go_ret2
      exact ⟨HFE.out _ rfl, Below.refl _ _⟩
    · have h1 : 4294967295 < n := by omega
      go_enter Try.func29, Try.ntmps29
      go_wp2
      go_ret2
      exact ⟨HFE.out _ rfl, Below.refl _ _⟩
set_option maxHeartbeats 1000000 in
theorem newD_any (l : Int) (w : World) : Calls Try.prog 10 #[.int .i64 l] w fun e w' => ((Lab l ∧ ∃ b, e = .returned (.tuple #[.pointer (some ⟨b, 0, none⟩), .int .i64 0]) ∧ DtAt w' b (fun _ => l) ∧ w.heap.size ≤ b) ∨ (¬ Lab l ∧ e = .returned (.tuple #[.pointer none, .int .i64 1]))) ∧ Below w.heap.size w w' := by
  have HL := hide (refIsLabel_any l w)
  by_cases hl : Lab l
  · rw [decide_eq_true hl] at HL
    go_enter Try.func10, Try.ntmps10
    go_wp2_with (go_at_call 27; refine HL.out.mono ?_; rintro e wz ⟨rfl, hwz⟩; have hwz := hwz.symm; subst hwz)
    go_ret2
    have x1 := al (Below.refl w.heap.size w) (.cells #[.int .i64 0, .int .i64 l] 75)
    have x2 := al x1 (.cells #[.slice (some ⟨w.heap.size, 0, none⟩) 1 1] 78)
    refine ⟨.inl ⟨hl, _, rfl, ?_, by simp⟩, x2⟩
    obtain ⟨m, hm⟩ : ∃ m : Nat, m = 4294967296 := ⟨_, rfl⟩
    have hc : cuts (fun _ => l) m = [(0, l)] := by
      rw [cuts_to (fun _ => l) (l := l) (m := 0) (m' := m) (by omega) (fun n _ _ => rfl)]
      rfl
    refine ⟨_, w.heap.size, m, hm, by have := heap_alloc_new (w.alloc (.cells #[.int .i64 0, .int .i64 l] 75)) (.cells #[.slice (some ⟨w.heap.size, 0, none⟩) 1 1] 78); simpa using this, ?_⟩
    rw [hc]
    refine own_below (w := w.alloc (.cells #[.int .i64 0, .int .i64 l] 75)) ?_ (al (Below.refl _ _) _)
    exact ⟨by simp [ctCells], .inr ⟨w.heap.size, 1, #[.int .i64 0, .int .i64 l], rfl, Nat.le_refl _, heap_alloc_new _ _, Nat.le_refl _, by unfold maxLen; omega, by simp, by simp [ctCells]⟩⟩
  · rw [decide_eq_false hl] at HL
    go_enter Try.func10, Try.ntmps10
    go_wp2_with (go_at_call 27; refine HL.out.mono ?_; rintro e wz ⟨rfl, hwz⟩; have hwz := hwz.symm; subst hwz)
    go_ret2
    exact ⟨.inr ⟨hl, rfl⟩, Below.refl _ _⟩
end Go.Proofs.Ytnfdjbaafiifnaa
