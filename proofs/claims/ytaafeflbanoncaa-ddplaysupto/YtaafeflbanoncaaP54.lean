/-
  known by its contract. No condition.
-/
import Derived.Test.YtaafeflbanoncaaP19
import Derived.Test.YtaafeflbanoncaaP20
import Derived.Test.YtaafeflbanoncaaP21
namespace Go.Proofs.Ytaafeflbanoncaa
open Go.RowKit Go.Lib Go.Maps

section
variable {S : List Int} {M : Int} {N N' : List Nd} {φ : Phi} {l : Nat} {ks : List Int} {r e : Int}
/-- What is made, where the kids are there already. -/
theorem ins_of (ok : Ok S M N) (hl : l < S.length) (hg : Hang S φ l) (hlen : (ks.length : Int) = S.getD l 0) (hr : ∀ i, i < ks.length → Rep S N (cutP φ l i) (ks.getD i 0)) (k : MkP S M N (l : Int) ks r e N') : ins S M N φ = (r, e, N') := by
  rw [ins_exp ok hl hg]
  have kk := kids_rep (step := ins S M) (G := fun c => ks.getD c 0) (N := N) (cuts S φ l) 0 (fun i hi => by
    have e : (cuts S φ l)[i] = cutP φ l i := by simp [cuts]
    rw [e, Nat.zero_add]
    rw [cuts_length] at hi
    exact ins_rep ok (hr i (by omega)))
  unfold expF
  rw [kk, if_pos rfl]
  have e1 : ((List.range (cuts S φ l).length).map fun i => ks.getD (0 + i) 0) = ks := by
    apply ext_getD
    · rw [List.length_map, List.length_range, cuts_length]; omega
    · intro i hi
      rw [List.length_map, List.length_range] at hi
      rw [List.getD_eq_getElem?_getD, List.getElem?_eq_getElem (by rw [List.length_map, List.length_range]; exact hi), List.getElem_map, List.getElem_range, Nat.zero_add]
      rfl
  rw [e1]
  exact mkF_of ok.nod k
end
theorem pt23 {p : Nat → Nat} (hp : Pnt [2, 3] p) : (p 0 = 0 ∨ p 0 = 1) ∧ (p 1 = 0 ∨ p 1 = 1 ∨ p 1 = 2) := by
  have h0 := hp 0 (by decide)
  have h1 := hp 1 (by decide)
  simp at h0 h1
  omega
def kN1 : List Nd := [(1, [0, 1, 1])]
def kN2 : List Nd := [(1, [0, 1, 1]), (0, [1, 0])]
def kN3 : List Nd := [(1, [0, 1, 1]), (0, [1, 0]), (0, [2, 0])]
def kN4 : List Nd := [(1, [0, 1, 1]), (0, [1, 0]), (0, [2, 0]), (1, [1, 0, 0])]
theorem km1 : MkP [2, 3] 9 [] 1 (bitL [false, true, true]) 2 0 kN1 := .inr (.inr (.inr (.inr ⟨(mayB_iff _ _ _ _).1 (by decide), by decide, by decide, by decide, by decide, rfl, rfl⟩)))
theorem km2 : MkP [2, 3] 9 kN1 0 (bitL [true, false]) 3 0 kN2 := .inr (.inr (.inr (.inr ⟨(mayB_iff _ _ _ _).1 (by decide), by decide, by decide, by decide, by decide, rfl, rfl⟩)))
theorem km3 : MkP [2, 3] 9 kN2 0 [2, 0] 4 0 kN3 := .inr (.inr (.inr (.inr ⟨(mayB_iff _ _ _ _).1 (by decide), by decide, by decide, by decide, by decide, rfl, rfl⟩)))
theorem km4 : MkP [2, 3] 9 kN3 1 [1, 0, 0] 5 0 kN4 := .inr (.inr (.inr (.inr ⟨(mayB_iff _ _ _ _).1 (by decide), by decide, by decide, by decide, by decide, rfl, rfl⟩)))
theorem ki1 (ok : Ok [2, 3] 9 []) : ins [2, 3] 9 [] (fun p => [false, true, true].getD (p 1) false) = (2, 0, kN1) := set_ins ok (by decide) (by decide) km1
theorem ki2 (ok : Ok [2, 3] 9 kN1) : ins [2, 3] 9 kN1 (fun p => [true, false].getD (p 0) false) = (3, 0, kN2) := set_ins ok (by decide) (by decide) km2
theorem ki3 (ok : Ok [2, 3] 9 kN2) (hg : Hang [2, 3] (fun p => (fun a b => a && b) (sayR kN2 p 2) (sayR kN2 p 3)) 0) : ins [2, 3] 9 kN2 (fun p => (fun a b => a && b) (sayR kN2 p 2) (sayR kN2 p 3)) = (4, 0, kN3) := by
  refine ins_of (l := 0) (ks := [2, 0]) ok (by decide) hg (by decide) (fun i hi => ?_) km3
  have hi' : i = 0 ∨ i = 1 := by simp at hi; omega
  rcases hi' with rfl | rfl
  · refine ⟨by decide, fun p hp => ?_⟩
    rcases (pt23 hp).2 with h1 | h1 | h1 <;> simp [kN2, sayR, sayN, cutP, upd, h1]
  · refine ⟨by decide, fun p hp => ?_⟩
    rcases (pt23 hp).2 with h1 | h1 | h1 <;> simp [kN2, sayR, sayN, cutP, upd, h1]
theorem ki4 (ok : Ok [2, 3] 9 kN3) : ins [2, 3] 9 kN3 (fun p => !sayR kN3 p 2) = (5, 0, kN4) := by
  refine ins_of (l := 1) (ks := [1, 0, 0]) ok (by decide) (fun p p' hp hp' hj => ?_) (by decide) (fun i hi => ?_) km4
  · have e := say_hang ok _ 2 (Nat.le_refl _) (by decide) 1 (by decide) p p' hp hp' hj
    simp only at e
    rw [e]
  · have hi' : i = 0 ∨ i = 1 ∨ i = 2 := by simp at hi; omega
    rcases hi' with rfl | rfl | rfl <;>
    (refine ⟨by decide, fun p hp => ?_⟩
     simp [kN3, sayR, sayN, cutP, upd])
theorem ki5 (ok : Ok [2, 3] 9 kN4) : ins [2, 3] 9 kN4 (fun p => sayR kN4 (upd p 1 1) 4) = (3, 0, kN4) := by
  refine ins_rep ok ⟨by decide, fun p hp => ?_⟩
  rcases (pt23 hp).1 with h0 | h0 <;> simp [kN4, sayR, sayN, upd, h0]
theorem kp6 : pathF kN4 (4 : Int).toNat 4 (List.replicate 2 0) = [0, 1] := by decide
/-- An operation, where its answer is known. -/
theorem OpL.known {a : Nat} {S : List Int} {M : Int} {N N' : List Nd} {P : Nat → Prop} {φ : Phi} {w w' w0 : World} {e : Ending} {r : Int} (h : OpL a S M N P φ w e w') (hi : Hang S φ 0 → ins S M N φ = (r, 0, N')) (hb : Below w0.heap.size w0 w) (hp : ∀ k, P k → w0.heap.size ≤ k) :
    e = .returned (.tuple #[.int .i64 r, .int .i64 0]) ∧ ∃ P', CA w' a S M N' 8192 P' ∧ Below w0.heap.size w0 w' ∧ ∀ k, P' k → w0.heap.size ≤ k := by
  obtain ⟨r2, er2, N2, P2, rfl, h1, h2, h3, h4, h5⟩ := h
  have e1 := hi h4
  rcases h5 with ⟨rfl, _, _, e2⟩ | ⟨rfl, rfl, rfl, N1, e2⟩
  · rw [e1] at e2
    simp only [Prod.mk.injEq, true_and] at e2
    obtain ⟨rfl, rfl⟩ := e2
    exact ⟨rfl, P2, h1, hb.trans (h2.below hb.size hp), fun k hk => (h3 k hk).elim (hp k) (Nat.le_trans hb.size)⟩
  · rw [e1] at e2
    simp at e2
theorem bat_new (w : World) (L : List Bool) : BAt (w.alloc (.cells (bC L).toArray 4)) (some ⟨w.heap.size, 0, none⟩) L := by
  refine .inr ⟨w.heap.size, 0, rfl, by simp, fun i hi => ?_⟩
  rw [Nat.zero_add, cell_of_row _ _ i _ _ _ (heap_alloc_new w _), List.getElem?_toArray, bC_get L hi]
set_option maxRecDepth 100000 in
set_option maxHeartbeats 4000000 in
theorem known_any (w : World) : Calls Try.prog 6 #[] w fun e w' => e = .returned (.bool true) ∧ Below w.heap.size w w' := by
  have y1 : Below w.heap.size w (w.alloc (.cells #[.int .i64 2, .int .i64 3] 3)) := al (Below.refl _ _) _
  have HN := new_any (some ⟨w.heap.size, 0, none⟩) 2 [2, 3] 9 (w.alloc (.cells #[.int .i64 2, .int .i64 3] 3)) (by simp) (zat_new w [2, 3])
  have HNW : Hid (Calls Try.prog 7 #[.slice (some ⟨w.heap.size, 0, none⟩) 2 2, .int .i64 9] (w.alloc (.cells #[.int .i64 2, .int .i64 3] 3)) fun e w' => ∃ a P, e = .returned (.tuple #[.pointer (some ⟨a, 0, none⟩), .int .i64 0]) ∧ CA w' a [2, 3] 9 [] 0 P ∧ Below w.heap.size w w' ∧ ∀ k, P k → w.heap.size ≤ k) := by
    refine HN.mono ?_
    rintro e w' ⟨⟨_, _, _, a, P, rfl, h1, h2⟩ | ⟨h1, _⟩, hb⟩
    · exact ⟨a, P, rfl, h1, bt y1 hb (Nat.le_refl _), fun k hk => Nat.le_trans y1.size (h2 k hk)⟩
    · exact absurd ⟨⟨by decide, by decide, by decide⟩, by decide, by decide⟩ h1
  clear HN y1
  go_enter Try.func6, Try.ntmps6
  go_upto_region 4 with (go_at_call 7; refine HNW.out.mono ?_; rintro e w1 ⟨a, P1, rfl, h1, b1, p1⟩; have H1 := hide h1; have B1 := hide b1; have P1' := hide p1; clear h1 b1 p1)
  clear HNW
  have y2 : Below w1.heap.size w1 (w1.alloc (.cells #[.bool false, .bool true, .bool true] 4)) := al (Below.refl _ _) _
  have M2 := hide ((set_ok (B := [false, true, true]) (l := 1) (cap := 3) (H1.out.below y2) (by decide) (by decide) (by decide) (bat_new w1 [false, true, true])).mono (fun e w' h => h.known (fun _ => ki1 H1.out.ok) (bt B1.out y2 (Nat.le_refl _)) P1'.out))
  clear H1 B1 P1' y2
  go_upto_region 5 with (go_at_call 23; refine M2.out.mono ?_; rintro e w2 ⟨rfl, P2, h1, b1, p1⟩; have H2 := hide h1; have B2 := hide b1; have P2' := hide p1; clear h1 b1 p1)
  clear M2
  have y2 : Below w2.heap.size w2 (w2.alloc (.cells #[.bool true, .bool false] 4)) := al (Below.refl _ _) _
  have M2 := hide ((set_ok (B := [true, false]) (l := 0) (cap := 2) (H2.out.below y2) (by decide) (by decide) (by decide) (bat_new w2 [true, false])).mono (fun e w' h => h.known (fun _ => ki2 H2.out.ok) (bt B2.out y2 (Nat.le_refl _)) P2'.out))
  clear H2 B2 P2' y2
  go_upto_region 6 with (go_at_call 23; refine M2.out.mono ?_; rintro e w3 ⟨rfl, P3, h1, b1, p1⟩; have H3 := hide h1; have B3 := hide b1; have P3' := hide p1; clear h1 b1 p1)
  clear M2
  have M2 := hide ((and_ok H3.out (f := 2) (g := 3) (by decide) (by decide)).mono (fun e w' h => h.known (fun hg => ki3 H3.out.ok hg) B3.out P3'.out))
  clear H3 B3 P3'
  go_upto_region 7 with (go_at_call 24; refine M2.out.mono ?_; rintro e w4 ⟨rfl, P4, h1, b1, p1⟩; have H4 := hide h1; have B4 := hide b1; have P4' := hide p1; clear h1 b1 p1)
  clear M2
  have M2 := hide ((not_ok H4.out (f := 2) (by decide)).mono (fun e w' h => h.known (fun _ => ki4 H4.out.ok) B4.out P4'.out))
  clear H4 B4 P4'
  go_upto_region 8 with (go_at_call 25; refine M2.out.mono ?_; rintro e w5 ⟨rfl, P5, h1, b1, p1⟩; have H5 := hide h1; have B5 := hide b1; have P5' := hide p1; clear h1 b1 p1)
  clear M2
  have M2 := hide ((restrict_ok H5.out (f := 4) (l := 1) (k := 1) (by decide) (by decide) (by decide)).mono (fun e w' h => h.known (fun _ => ki5 H5.out.ok) B5.out P5'.out))
  clear H5 B5 P5'
  go_upto_region 9 with (go_at_call 26; refine M2.out.mono ?_; rintro e w6 ⟨rfl, P6, h1, b1, p1⟩; have H6 := hide h1; have B6 := hide b1; have P6' := hide p1; clear h1 b1 p1)
  clear M2
  have M2 := hide (path_ok H6.out (f := 4) (by decide) (by decide))
  go_upto_region 10 with (go_at_call 27; refine M2.out.mono ?_; rintro e w7 ⟨ob, rfl, hob, L, hL, hl, hR, x7⟩; have HL := hide hL; have HR := hide hR; have X7 := hide x7; clear hL hl hR x7 hob)
  clear M2
  have hR := HR.out
  rw [HL.out] at hR
  have hR2 : RwZ w7 ob [0, 1] := by have h0 := hR; simp only [List.length_cons, List.length_nil] at h0; rw [kp6] at h0; exact h0
  have y8 : Below w7.heap.size w7 (w7.alloc (.cells #[.int .i64 0, .int .i64 1] 3)) := al (Below.refl _ _) _
  have X8 := hide (bt (bt B6.out X7.out (Nat.le_refl _)) y8 (Nat.le_refl _))
  have SM := same_any (some ⟨ob, 0, none⟩) (some ⟨w7.heap.size, 0, none⟩) 2 2 [0, 1] [0, 1] (w7.alloc (.cells #[.int .i64 0, .int .i64 1] 3)) (by simp) (hR2.below y8).zbk.at (zat_new w7 [0, 1])
  have HSM := hide SM
  clear SM hR hR2 HL HR H6 P6' y8
  go_wp2_with (go_at_call 28; refine HSM.out.mono ?_; rintro e w8 ⟨rfl, x8⟩; have X9 := hide x8; clear x8)
  go_ret
  exact ⟨rfl, bt X8.out X9.out (Nat.le_refl _)⟩
end Go.Proofs.Ytaafeflbanoncaa
