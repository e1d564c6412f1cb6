/-
  What Map hands to mapped, mapped, Map by their contracts. No condition.
-/
import Derived.Test.YtnfdjbaafiifnaaP18
namespace Go.Proofs.Ytnfdjbaafiifnaa
open Go.RowKit Go.Lib

/-- A list of numbers that begins at ao. -/
def ZAt (w : World) (ao : Option Addr) (L : List Int) : Prop := L = [] ∨ ∃ b off, ao = some ⟨b, off, none⟩ ∧ b < w.heap.size ∧ ∀ i, i < L.length → w.cell? ⟨b, off + i, none⟩ = some (.int .i64 (L.getD i 0))
theorem ZAt.below {w w' : World} {ao : Option Addr} {L : List Int} (h : ZAt w ao L) (hb : Below w.heap.size w w') : ZAt w' ao L := by
  rcases h with rfl | ⟨b, off, e, hlt, h⟩
  · exact .inl rfl
  · exact .inr ⟨b, off, e, Nat.lt_of_lt_of_le hlt hb.size, fun i hi => (hb.cell (p := ⟨b, _, none⟩) hlt).trans (h i hi)⟩
/-- The label's other one, and whether it has one. -/
def tr (L : List Int) (l : Int) : Int := if l < L.length then L.getD l.toNat 0 else 0
def trOk (L : List Int) (l : Int) : Prop := l < L.length ∧ Lab (L.getD l.toNat 0)
instance (L : List Int) (l : Int) : Decidable (trOk L l) := inferInstanceAs (Decidable (_ ∧ _))

set_option maxRecDepth 100000 in
set_option maxHeartbeats 1000000 in
theorem other_any (l : Int) (hl : 0 ≤ l) (lb cap : Nat) (ao : Option Addr) (L : List Int) (w : World) (hv : w.cell? ⟨lb, 0, none⟩ = some (.slice ao L.length cap)) (hz : ZAt w ao L) (hL : L.length ≤ 140737488351232) :
    Calls Try.prog 44 #[.int .i64 l, .pointer (some ⟨lb, 0, none⟩)] w fun e w' => e = .returned (.tuple #[.int .i64 (tr L l), .bool (decide (trOk L l))]) ∧ Below w.heap.size w w' := by
  by_cases h : l < L.length
  · obtain ⟨n, rfl⟩ : ∃ n : Nat, l = n := ⟨l.toNat, by omega⟩
    rcases hz with rfl | ⟨b, off, rfl, hb, hc⟩
    · simp at h; omega
    have c1 := hc n (by omega)
    have e1 : tr L n = L.getD n 0 := by unfold tr; rw [if_pos h]; simp
    have e2 : decide (trOk L n) = decide (Lab (L.getD n 0)) := by unfold trOk; simp [h]
    rw [e1, e2]
    generalize L.getD n 0 = z at *
    have hlab := fun w => isLabel_any z w
    clear hc e1 e2
    go_enter Try.func44, Try.ntmps44
    go_wp2
    go_quiet (exact Calls.quiet_of_same (hlab _))
    go_wp2
    go_ret2
    exact ⟨rfl, below_drewN _ _ _⟩
  · have e1 : tr L l = 0 := by unfold tr; rw [if_neg h]
    have e2 : decide (trOk L l) = false := decide_eq_false (fun h' => h h'.1)
    rw [e1, e2]
    have h' : (L.length : Int) ≤ l := by omega
    clear e1 e2 hz
    go_enter Try.func44, Try.ntmps44
    go_wp2
    go_ret2
    exact ⟨rfl, Below.refl _ _⟩
/-- Where the labels lie for the function that is handed on. -/
structure LbAt (w : World) (lb : Nat) (L : List Int) : Prop where
  ex : ∃ ao cap, w.heap[lb]? = some (.cells #[.slice ao L.length cap] 43 (0, 0)) ∧ ZAt w ao L
theorem LbAt.below {w w' : World} {lb : Nat} {L : List Int} (h : LbAt w lb L) (hb : Below w.heap.size w w') : LbAt w' lb L := by
  obtain ⟨ao, cap, h1, h2⟩ := h.ex
  exact ⟨ao, cap, (hb.block lb (lt_of_block h1)).trans h1, h2.below hb⟩
theorem LbAt.other {w : World} {lb : Nat} {L : List Int} (h : LbAt w lb L) (hL : L.length ≤ 140737488351232) (l : Int) (hl : 0 ≤ l) :
    Calls Try.prog 44 #[.int .i64 l, .pointer (some ⟨lb, 0, none⟩)] w fun e w' => e = .returned (.tuple #[.int .i64 (tr L l), .bool (decide (trOk L l))]) ∧ Below w.heap.size w w' := by
  obtain ⟨ao, cap, h1, h2⟩ := h.ex
  exact other_any l hl lb cap ao L w (by rw [cell_of_row w lb 0 _ _ _ h1]; rfl) h2 hL
theorem labs_mono {p q : Int → Prop} (h : ∀ l, p l → q l) : ∀ {t : Tr}, t.labs p → t.labs q
  | .leaf _, ht => h _ ht
  | .fork _ _, ht => ⟨labs_mono h ht.1, labs_mono h ht.2⟩
set_option maxRecDepth 100000 in
set_option maxHeartbeats 4000000 in
theorem mapped_any (lb : Nat) (L : List Int) (hL : L.length ≤ 140737488351232) : ∀ (t : Tr) (v : Value) (w : World), t.labs Lab → NodeAt w t v → LbAt w lb L →
    Calls Try.prog 43 #[v, .func (.func 44) #[] #[.pointer (some ⟨lb, 0, none⟩)]] w fun e w' => ((t.labs (trOk L) ∧ ∃ a, e = .returned (.tuple #[.pointer (some a), .bool true]) ∧ NodeAt w' (t.map (tr L)) (.pointer (some a))) ∨ (¬ t.labs (trOk L) ∧ ∃ r, e = .returned (.tuple #[.pointer r, .bool false]))) ∧ Below w.heap.size w w'
  | .leaf l, v, w, hl, hn, hlb => by
    have hw := isWhole_any w hn
    have e1 : (Tr.leaf l).isLeaf = true := rfl
    rw [e1] at hw
    have ho := fun W (x : Below w.heap.size w W) => (hlb.below x).other hL l hl.1
    obtain ⟨b, rfl, hc⟩ := hn
    have c0 : w.cell? ⟨b, 0, none⟩ = some (.int .i64 l) := by rw [cell_of_row w b 0 _ _ _ hc]; rfl
    have hwh := fun W => Go.Proofs.Ytnfdjbaafiifnaa.whole_any (tr L l) W
    have hb := lt_of_block hc
    have HO := hide ho
    clear hc hlb ho
    by_cases h : trOk L l
    · rw [decide_eq_true h] at HO
      have H := hide h
      go_enter Try.func43, Try.ntmps43
      go_wp2_with (first
        | (go_at_call 54; refine hw.mono ?_; rintro e w1 ⟨rfl, hw1⟩; subst hw1)
        | (go_at_call 44; refine (HO.out _ (Below.refl _ _)).mono ?_; rintro e w2 ⟨rfl, x2⟩; have X2 := hide x2; clear x2)
        | (go_at_call 26; refine (hwh _).mono ?_; rintro e w3 ⟨⟨r, rfl, n3⟩, x3⟩; obtain ⟨b3, _, _, rfl, _⟩ := n3.shape; have N3 := hide n3; have X3 := hide (bt X2.out x3 (Nat.le_refl _)); clear n3 x3))
      go_ret2
      exact ⟨.inl ⟨H.out, _, rfl, N3.out⟩, X3.out⟩
    · rw [decide_eq_false h] at HO
      have H := hide h
      go_enter Try.func43, Try.ntmps43
      go_wp2_with (first
        | (go_at_call 54; refine hw.mono ?_; rintro e w1 ⟨rfl, hw1⟩; subst hw1)
        | (go_at_call 44; refine (HO.out _ (Below.refl _ _)).mono ?_; rintro e w2 ⟨rfl, x2⟩; have X2 := hide x2; clear x2)
        | (go_at_call 26; refine (hwh _).mono ?_; rintro e w3 ⟨⟨r, rfl, n3⟩, x3⟩; obtain ⟨b3, _, _, rfl, _⟩ := n3.shape; have N3 := hide n3; have X3 := hide (bt X2.out x3 (Nat.le_refl _)); clear n3 x3))
      go_ret2
      exact ⟨.inr ⟨H.out, _, rfl⟩, X3.out⟩
  | .fork x y, v, w, hl, hn, hlb => by
    have hw := isWhole_any w hn
    have e1 : (Tr.fork x y).isLeaf = false := rfl
    rw [e1] at hw
    obtain ⟨b, p, q, rfl, hc, hx, hy⟩ := hn
    obtain ⟨b', _, _, hq, _⟩ := hy.shape
    subst hq
    have ih1 := mapped_any lb L hL x (.pointer (some p)) w hl.1 hx hlb
    have ih2 := fun W (z : Below w.heap.size w W) => mapped_any lb L hL y (.pointer (some ⟨b', 0, none⟩)) W hl.2 (hy.below z) (hlb.below z)
    have hb := lt_of_block hc
    have c1 : w.cell? ⟨b, 1, none⟩ = some (.pointer (some p)) := by rw [cell_of_row w b 1 _ _ _ hc]; rfl
    have c2 : w.cell? ⟨b, 2, none⟩ = some (.pointer (some ⟨b', 0, none⟩)) := by rw [cell_of_row w b 2 _ _ _ hc]; rfl
    have HI1 := hide ih1
    have HI2 := hide ih2
    clear hc ih1 ih2 hx hy hlb e1
    go_enter Try.func43, Try.ntmps43
    go_wp2_with (first
      | (go_at_call 54; refine hw.mono ?_; rintro e w1 ⟨rfl, hw1⟩; subst hw1; clear hw))
    refine HI1.out.mono ?_
    rintro e w2 ⟨h2, x2⟩
    have X2 := hide x2
    rcases h2 with ⟨k2, a2, rfl, n2⟩ | ⟨k2, r2, rfl⟩
    · have N2 := hide n2
      have K2 := hide k2
      have c3 := (x2.cell (p := ⟨b, 2, none⟩) hb).trans c2
      clear n2 k2 c1 c2 x2
      go_wp2_with (fail)
      refine (HI2.out _ X2.out).mono ?_
      rintro e w3 ⟨h3, x3⟩
      have X3 := hide (bt X2.out x3 (Nat.le_refl _))
      rcases h3 with ⟨k3, a3, rfl, n3⟩ | ⟨k3, r3, rfl⟩
      · have hj := joined_any w3 (N2.out.below x3) n3
        have K3 := hide k3
        clear n3 k3 c3 x3
        go_wp2_with (go_at_call 58; refine hj.mono ?_; rintro e w4 ⟨⟨r4, rfl, n4⟩, x4⟩; obtain ⟨b4, _, _, rfl, _⟩ := n4.shape; have N4 := hide n4; have X4 := hide (bt X3.out x4 (Nat.le_refl _)); clear n4 x4)
        go_ret2
        exact ⟨.inl ⟨⟨K2.out, K3.out⟩, _, rfl, N4.out⟩, X4.out⟩
      · have K3 := hide k3
        clear k3 c3 x3
        go_wp2
        go_ret2
        exact ⟨.inr ⟨fun h => K3.out h.2, _, rfl⟩, X3.out⟩
    · have K2 := hide k2
      clear k2 c1 c2 x2
      go_wp2
      go_ret2
      exact ⟨.inr ⟨fun h => K2.out h.1, _, rfl⟩, X2.out⟩
set_option maxRecDepth 100000 in
set_option maxHeartbeats 4000000 in
theorem mapT_any {t : Tr} {b cap : Nat} {ao : Option Addr} (L : List Int) (w : World) (hL : L.length ≤ 140737488351232) (hl : t.labs Lab) (hz : ZAt w ao L) (h : TrieAt w t (.pointer (some ⟨b, 0, none⟩))) :
    Calls Try.prog 23 #[.pointer (some ⟨b, 0, none⟩), .slice ao L.length cap] w fun e w' =>
      ((t.labs (trOk L) ∧ e = .returned (.int .i64 0) ∧ TrieAt w' (t.map (tr L)) (.pointer (some ⟨b, 0, none⟩))) ∨ (¬ t.labs (trOk L) ∧ e = .returned (.int .i64 1) ∧ TrieAt w' t (.pointer (some ⟨b, 0, none⟩)))) ∧ Kept (fun x => x = b) w w' := by
  have hmf : ∀ (fn : Fn) (first cap : Array Value) (w : World), (Instr.makeFunc fn first cap).run Try.prog w = .ok (.func fn first cap) w := fun _ _ _ _ => rfl
  have HT := hide h
  obtain ⟨b', r, e, h1, h2⟩ := h
  injection e with e; injection e with e; injection e with e; subst e
  have hX : Below w.heap.size w (w.alloc (.cells #[.slice ao L.length cap] 43)) := al (Below.refl _ _) _
  have hm := mapped_any w.heap.size L hL t r (w.alloc (.cells #[.slice ao L.length cap] 43)) hl (h2.below hX) ⟨ao, cap, heap_alloc_new _ _, hz.below hX⟩
  have hb := lt_of_block h1
  have HB1 := hide ((hX.block b hb).trans h1)
  have c0 : (w.alloc (.cells #[.slice ao L.length cap] 43)).cell? ⟨b, 0, none⟩ = some r := by rw [cell_of_row _ b 0 _ _ _ HB1.out]; rfl
  obtain ⟨br, _, _, rfl, _⟩ := h2.shape
  have HX := hide hX
  clear h1 h2 hX hz
  go_enter Try.func23, Try.ntmps23
  go_wp2_with (fail)
  refine hm.mono ?_
  rintro e w2 ⟨h2, x2⟩
  have X2 := hide (bt HX.out x2 (Nat.le_refl _))
  rcases h2 with ⟨k2, a2, rfl, n2⟩ | ⟨k2, r2, rfl⟩
  · have N2 := hide n2
    have K2 := hide k2
    have B2 := hide ((x2.block b (Nat.lt_of_lt_of_le hb HX.out.size)).trans HB1.out)
    have c3 : w2.cell? ⟨b, 0, none⟩ = some (.pointer (some ⟨br, 0, none⟩)) := by rw [cell_of_row w2 b 0 _ _ _ B2.out]; rfl
    have f3 := frozen_of_row w2 b 0 _ _ B2.out
    clear n2 k2 c0 x2 hm
    go_wp2
    go_ret
    exact ⟨.inl ⟨K2.out, rfl, TrieAt.set B2.out N2.out⟩, Kept.setCell (F := fun x => x = b) (p := ⟨b, 0, none⟩) (Kept.of_below X2.out) rfl _⟩
  · have K2 := hide k2
    clear k2 c0 x2 hm
    go_wp2
    go_ret
    exact ⟨.inr ⟨K2.out, rfl, HT.out.below X2.out⟩, Kept.of_below X2.out⟩
end Go.Proofs.Ytnfdjbaafiifnaa
