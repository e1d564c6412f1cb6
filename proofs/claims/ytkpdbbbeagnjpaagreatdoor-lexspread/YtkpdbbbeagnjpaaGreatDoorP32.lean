/-
  The scanner's end by its contract, in any state. Conditions: as step's.
-/
import Derived.Test.YtkpdbbbeagnjpaaGreatDoorP31
namespace Go.Proofs.YtkpdbbbeagnjpaaGreatDoor
open Go.RowKit Go.Lib
section
variable {w : World} {base p : Nat} {s : By} {x : SS}
set_option maxHeartbeats 4000000 in
set_option maxRecDepth 100000 in
theorem endD_any (h : ScA w base p s x) (h4 : x.st = 4) (hf0 : 0 ≤ x.fr) (hf1 : x.fr < s.length) (hs : s.length ≤ 8000) (hgo : ∀ c ∈ cutB s x.fr.toNat s.length, goB 4 (bI c) = true) (hev : ErrV base w) (hb : base ≤ w.heap.size) (hl : x.tk.length ≤ 4294967295) :
    Calls Tryz.prog 20 #[.pointer (some ⟨p, 0, none⟩)] w fun e w' => ScE w base p s (endQ s x) e w' := by
  have HA := hide h
  obtain ⟨tv, ad, bv, h⟩ := h
  obtain ⟨c0, c2, -, f2, -⟩ := h.cells
  have hsz := bs_size s
  clear h
  rw [h4] at c2
  have HEND : Hid (∀ (W : World) (y : SS), ScA W base p s y → base ≤ W.heap.size → y.tk.length ≤ 4294967296 → ∃ tv ad bv, Sc W base p s y tv ad bv ∧ W.cell? ⟨p, 0, none⟩ = some (.string ⟨s.toArray⟩) ∧ W.frozen? ⟨p, 3, none⟩ = false ∧ (∃ z, W.cell? ⟨p, 3, none⟩ = some z) ∧ KpT base p W (W.setCell ⟨p, 3, none⟩ (.int .i64 s.length)) ∧ Calls Tryz.prog 37 #[.pointer (some ⟨p, 0, none⟩), .agg #[.int .i64 8, .string ⟨#[]⟩, .int .i64 0, .int .i64 0, .int .i64 0, .int .i64 0]] (W.setCell ⟨p, 3, none⟩ (.int .i64 s.length)) fun e w' => e = .returned (.tuple #[]) ∧ ScA w' base p s { y with fr := s.length, tk := y.tk ++ [⟨8, [], 0, 0, 0, s.length⟩] } ∧ KpT base p (W.setCell ⟨p, 3, none⟩ (.int .i64 s.length)) w' ∧ (W.setCell ⟨p, 3, none⟩ (.int .i64 s.length)).heap.size ≤ w'.heap.size) := fun W y hy hz ht => by
    obtain ⟨tv, ad, bv, hy⟩ := hy
    obtain ⟨s1, k1⟩ := hy.setFr s.length
    obtain ⟨d0, -, d3, -, f3⟩ := hy.cells
    refine ⟨tv, ad, bv, hy, d0, f3, ⟨_, d3⟩, k1, ?_⟩
    exact s1.add ⟨8, [], 0, 0, 0, 0⟩ ht (by have := k1.size; omega)
  have HM : Hid (endQ s x = if (endDigP x (cutB s x.fr.toNat s.length)).1 = 0 then (0, { (endDigP x (cutB s x.fr.toNat s.length)).2 with fr := s.length, tk := (endDigP x (cutB s x.fr.toNat s.length)).2.tk ++ [⟨8, [], 0, 0, 0, s.length⟩] }) else endDigP x (cutB s x.fr.toNat s.length)) := by unfold Hid endQ; rw [if_pos h4]
  have HX := hide (endDig_any HA.out (s.length : Int) h4 hf0 (by omega) (by omega) hs (by simpa using hgo) hev hb (by omega))
  rw [Int.toNat_natCast] at HX
  have ht := endDig_tk x (cutB s x.fr.toNat s.length)
  clear hgo
  generalize endDigP x (cutB s x.fr.toNat s.length) = y at *
  obtain ⟨y1, y2⟩ := y
  simp only at HM HX ht
  rcases ht with ⟨rfl, -, -, -, ht⟩ | ht
  · rw [if_pos rfl] at HM
    go_enter Tryz.func20, Tryz.ntmps20
    go_wp2_with (first | (go_at_call 35; refine HX.out.mono ?_; rintro e w2 ⟨rfl, hA, hK, hS⟩; obtain ⟨tv, ad, bv, hy, d0, f3, ⟨z, d3⟩, k1, hc⟩ := HEND.out w2 y2 hA (by omega) (by omega); have HC2 := hide hc; have HK1 := hide k1; have HK2 := hide hK; have HS2 := hide hS; clear hA hK hS hy hc k1) | (go_at_call 37; refine HC2.out.mono ?_; rintro e w3 ⟨rfl, hA, hK, hS⟩; have HA3 := hide hA; have HK3 := hide hK; have HS3 := hide hS; clear hA hK hS))
    go_ret
    rw [HM.out]
    exact ⟨rfl, HA3.out, HK2.out.trans (HK1.out.trans HK3.out), Nat.le_trans HS2.out (Nat.le_trans HK1.out.size HS3.out)⟩
  · obtain ⟨rfl, hy2⟩ := Prod.mk.inj ht
    have HY := hide hy2
    clear ht hy2
    rw [if_neg (by decide)] at HM
    go_enter Tryz.func20, Tryz.ntmps20
    go_wp2_with (go_at_call 35; refine HX.out.mono ?_; rintro e w2 ⟨rfl, hA, hK, hS⟩; have HA2 := hide hA; have HK2 := hide hK; have HS2 := hide hS; clear hA hK hS)
    go_ret
    rw [HM.out]
    exact ⟨rfl, HA2.out, HK2.out, HS2.out⟩
end
/-- What a scanner is in began within the source; a run of digits is one. -/
structure OkS (s : By) (i : Nat) (x : SS) : Prop where
  f0 : 0 ≤ x.fr
  f1 : x.fr ≤ i
  tk : x.tk.length ≤ 2 * i
  mn : x.mn.length ≤ 200
  dg : x.st = 4 → x.fr < i ∧ ∀ c ∈ cutB s x.fr.toNat i, goB 4 (bI c) = true
section
variable {w : World} {base p : Nat} {s : By} {x : SS}
theorem step_q (h : ScA w base p s x) (i : Nat) (r : Int) (h0 : 0 ≤ r) (ho : OkS s i x) (hq : i ≤ s.length) (hs : s.length ≤ 8000) (hev : ErrV base w) (hb : base ≤ w.heap.size) :
    Calls Tryz.prog 19 #[.pointer (some ⟨p, 0, none⟩), .int .i64 i, .int .i32 r] w fun e w' => ScE w base p s (stepQ s x i r) e w' := by
  have h1 := ho.tk
  have h2 := ho.mn
  have h3 := ho.f1
  by_cases h4 : x.st = 4
  · obtain ⟨d1, d2⟩ := ho.dg h4
    exact stepD_any h i r h0 h4 ho.f0 d1 (by omega) hs (by simpa using d2) hev hb (by omega)
  · have e : stepQ s x i r = stepP s x i r := by unfold stepQ; rw [if_neg h4]
    rw [e]
    exact stepAll_any h i r h0 h4 ho.f0 h3 (by omega) (by omega) hb (by omega) (by omega)
theorem end_q (h : ScA w base p s x) (ho : OkS s s.length x) (hs : s.length ≤ 8000) (hev : ErrV base w) (hb : base ≤ w.heap.size) :
    Calls Tryz.prog 20 #[.pointer (some ⟨p, 0, none⟩)] w fun e w' => ScE w base p s (endQ s x) e w' := by
  have h1 := ho.tk
  have h3 := ho.f1
  by_cases h4 : x.st = 4
  · obtain ⟨d1, d2⟩ := ho.dg h4
    exact endD_any h h4 ho.f0 d1 hs d2 hev hb (by omega)
  · have e : endQ s x = endP s x := by unfold endQ; rw [if_neg h4]
    rw [e]
    exact end_any h h4 ho.f0 h3 (by omega) hb (by omega)
end
end Go.Proofs.YtkpdbbbeagnjpaaGreatDoor
