/-
  GlobMatches, walked. Conditions: the pattern has at most 2^32 bytes, lists and texts are no longer than a process can hold.
-/
import Derived.Test.YtaiijdnfimclbaaRps
import Derived.Test.YtaiijdnfimclbaaRmt
import Derived.Test.YtaiijdnfimclbaaKnw
import Derived.Test.YtaiijdnfimclbaaPta
namespace Go.Proofs.Ytaiijdnfimclbaa
open Go.RowKit Go.Lib

/-- Texts as they lie in memory. -/
def TxAt (w : World) (ao : Option Addr) (T : List By) : Prop := T = [] ∨ ∃ b off, ao = some ⟨b, off, none⟩ ∧ b < w.heap.size ∧ ∀ i (h : i < T.length), w.cell? ⟨b, off + i, none⟩ = some (.string ⟨T[i].toArray⟩)
theorem TxAt.below {w w' : World} {ao : Option Addr} {T : List By} (h : TxAt w ao T) (hb : Below w.heap.size w w') : TxAt w' ao T := by
  rcases h with h | ⟨b, off, h1, h2, h3⟩
  · exact .inl h
  · exact .inr ⟨b, off, h1, Nat.lt_of_lt_of_le h2 hb.size, fun i hi => (hb.cell (p := ⟨b, off + i, none⟩) h2).trans (h3 i hi)⟩
theorem TxAt.get {w : World} {ao : Option Addr} {T : List By} (h : TxAt w ao T) {k : Nat} (hk : k < T.length) : ∃ b off, ao = some ⟨b, off, none⟩ ∧ b < w.heap.size ∧ w.cell? ⟨b, off + k, none⟩ = some (.string ⟨T[k].toArray⟩) := by
  rcases h with h | ⟨b, off, h1, h2, h3⟩
  · rw [h] at hk; cases hk
  · exact ⟨b, off, h1, h2, h3 k hk⟩
theorem two_of (L : List Pc) (hR : Rt L) (s : By) (hs : s.length ≤ 140737488351232) : ∃ b : Bool, ∀ (D : List PD), D.map PD.p = L → ∀ ao cap W, PcAt W ao D →
    (Calls Try.prog 19 #[.slice ao D.length cap, .string ⟨s.toArray⟩] W fun e w' => e = .returned (.tuple #[.bool b, .int .i64 0]) ∧ Below W.heap.size W w') ∧ (Calls Try.prog 20 #[.slice ao D.length cap, .string ⟨s.toArray⟩] W fun e w' => e = .returned (.tuple #[.bool b, .int .i64 0]) ∧ Below W.heap.size W w') := by
  refine ⟨mtF L s L.length, fun D hD ao cap W hat => ?_⟩
  have hl : ∀ d ∈ D, d.p.set.length ≤ 140737488351232 := fun x hx => by have := right_set_len hR x.p (by rw [← hD]; exact List.mem_map.2 ⟨x, hx, rfl⟩); omega
  subst hD
  refine ⟨(match_any ao cap D s W hs hl hat).mono (fun _ _ h => ?_), (refMatch_any ao cap D s W hs hl hat).mono (fun _ _ h => ?_)⟩
  · rcases h.1 with ⟨_, he⟩ | ⟨h1, _⟩
    · exact ⟨he, h.2⟩
    · exact absurd hR h1
  · rcases h.1 with ⟨_, he⟩ | ⟨h1, _⟩
    · exact ⟨he, h.2⟩
    · exact absurd hR h1
set_option maxRecDepth 100000 in
set_option maxHeartbeats 4000000 in
theorem globMatches_any (s : By) (ao : Option Addr) (cap : Nat) (T : List By) (w : World) (hs : s.length ≤ 4294967296) (hT : T.length ≤ 140737488351232) (hTs : ∀ x ∈ T, x.length ≤ 140737488351232) (hat : TxAt w ao T) :
    Calls Try.prog 5 #[.string ⟨s.toArray⟩, .slice ao T.length cap] w fun e w' => e = .returned (.bool true) ∧ Below w.heap.size w w' := by
  have HAT := hide hat
  clear hat
  go_enter Try.func5, Try.ntmps5
  go_wp2_with (fail)
  refine (known_any w).mono ?_
  rintro e w1 ⟨rfl, x1⟩
  have X1 := hide x1
  clear x1
  go_wp2_with (fail)
  refine (parse_any s w1 hs).mono ?_
  rintro e w2 ⟨h2, x2⟩
  have X2 := hide (bt X1.out x2 (Nat.le_refl _))
  have H3 := hide (refParse_any s w2 hs)
  cases hp1 : parL s with
  | error t1 =>
    obtain ⟨rfl, _⟩ := h2.err hp1
    clear h2 x2
    go_wp2_with (fail)
    refine H3.out.mono ?_
    rintro e w3 ⟨h3, x3⟩
    have X3 := hide (bt X2.out x3 (Nat.le_refl _))
    obtain ⟨rfl, _⟩ := h3.err hp1
    clear h3 x3 H3 hp1
    go_wp2
    go_loopg [12] 1 (fun g x wr => x = .int .i64 0 ∧ wr = w3 ∧ 0 < g)
    case atStart => exact ⟨rfl, rfl, by omega⟩
    case round =>
      obtain ⟨rfl, rfl, _⟩ := hrel
      by_cases h0 : (0 : Int) < (T.length : Int)
      · go_wp2
        go_ret
        exact ⟨rfl, X3.out⟩
      · go_wp2
        go_ret
        exact ⟨rfl, X3.out⟩
  | ok L =>
    obtain ⟨v1, D, rfl, o1, hD1⟩ := h2.ok hp1
    obtain ⟨a1, c1, rfl, _, at1⟩ := o1.at
    have R1 := hide (parL_right hp1)
    clear h2 o1 x2
    go_wp2_with (fail)
    refine H3.out.mono ?_
    rintro e w3 ⟨h3, x3⟩
    have X3 := hide (bt X2.out x3 (Nat.le_refl _))
    obtain ⟨v2, E, rfl, o2, hE1⟩ := h3.ok hp1
    obtain ⟨a2, c2, rfl, _, at2⟩ := o2.at
    have A1 := hide (at1.below x3)
    have A2 := hide at2
    have HTA := hide (HAT.out.below X3.out)
    have HD := hide hD1
    have HE := hide hE1
    clear h3 o2 x3 H3 hp1 at1 at2 hD1 hE1
    go_wp2
    go_loopg [12] (T.length + 1) (fun g x wr => ∃ k : Nat, x = .int .i64 k ∧ k ≤ T.length ∧ Hid (Below w3.heap.size w3 wr) ∧ T.length - k < g)
    case atStart => exact ⟨0, rfl, by omega, Below.refl _ _, by omega⟩
    case round =>
      obtain ⟨k, rfl, hkl, XB, hg⟩ := hrel
      have HG := hide hg
      clear hg
      by_cases hk : k < T.length
      · have hk' : (k : Int) < (T.length : Int) := by omega
        obtain ⟨b, off, rfl, hbl, hc⟩ := (HTA.out.below XB.out).get hk
        obtain ⟨x, hx⟩ : ∃ x, T[k] = x := ⟨_, rfl⟩
        have hxl : x.length ≤ 140737488351232 := by rw [← hx]; exact hTs _ (List.getElem_mem hk)
        rw [hx] at hc
        clear hx
        obtain ⟨m, HM⟩ := two_of L R1.out x hxl
        have H1 := hide ((HM D HD.out a1 c1 wr (A1.out.below XB.out)).1)
        have HM2 := hide (fun W (h : Below w3.heap.size w3 W) => (HM E HE.out a2 c2 W (A2.out.below h)).2)
        have HCB := hide (fun W (h : Below wr.heap.size wr W) => (h.cell (p := ⟨b, off + k, none⟩) hbl).trans hc)
        clear HM
        go_wp2_with (fail)
        refine H1.out.mono ?_
        rintro e w4 ⟨rfl, x4⟩
        have c4 := HCB.out w4 x4
        have X4 := hide (bt XB.out x4 (Nat.le_refl _))
        have H2 := hide (HM2.out w4 X4.out)
        clear H1 HM2 hc HCB x4 hbl
        go_wp2_with (fail)
        refine H2.out.mono ?_
        rintro e w5 ⟨rfl, x5⟩
        have X5 := hide (bt X4.out x5 (Nat.le_refl _))
        have bm : (m != m) = false := by cases m <;> rfl
        have bm2 : (m == m) = true := by cases m <;> rfl
        have hw : IntKind.i64.wrap ((k : Int) + 1) = ((k + 1 : Nat) : Int) := by simp [IntKind.wrap, IntKind.bits, IntKind.signed]; omega
        clear H2 x5 c4
        go_wp2
        go_roundg (T.length - (k + 1) + 1)
        case measure => have := HG.out; omega
        case rel => exact ⟨k + 1, by first | rfl | go_num | (congr 1; omega), by omega, X5, by omega⟩
      · have hk' : ¬ (k : Int) < (T.length : Int) := by omega
        have X6 := hide (bt X3.out XB.out (Nat.le_refl _))
        go_wp2
        go_ret
        exact ⟨rfl, X6.out⟩
end Go.Proofs.Ytaiijdnfimclbaa
