/-
  awake, walked: it answers true; nothing that was there has turned. No condition.
-/
import Derived.Test.YtljagefcgijmlaaAwake
namespace Go.Proofs.Ytljagefcgijmlaa
open Go.RowKit Go.Lib

theorem Got.two {w : World} {ao : Option Addr} (h : Got w ao Ma) : ∃ b off, ao = some ⟨b, off, none⟩ ∧ b < w.heap.size ∧ w.cell? ⟨b, off + 2, none⟩ = some (.int .i64 7) ∧ w.cell? ⟨b, off + 3, none⟩ = some (.int .i64 20) := by
  obtain ⟨b, off, e, hlt, hc⟩ := h.at'.get (i := 1) (by decide)
  exact ⟨b, off, e, hlt, (hc 1 (by decide)).1, (hc 1 (by decide)).2⟩
theorem Got.three {w : World} {ao : Option Addr} (h : Got w ao Mb) : ∃ b off, ao = some ⟨b, off, none⟩ ∧ b < w.heap.size ∧ w.cell? ⟨b, off + 4, none⟩ = some (.int .i64 21) ∧ w.cell? ⟨b, off + 5, none⟩ = some (.int .i64 4294967295) := by
  obtain ⟨b, off, e, hlt, hc⟩ := h.at'.get (i := 2) (by decide)
  exact ⟨b, off, e, hlt, (hc 2 (by decide)).1, (hc 2 (by decide)).2⟩
/-- The seven parts. -/
theorem seven {w : World} {base : Nat} {v : Value} {P : List PartD} (h : OwnP w base v P) (hq : bare P = Qp) : ∃ g cap ai ci, v = .slice (some ⟨g, 0, none⟩) 7 cap ∧ g < w.heap.size ∧ w.cell? ⟨g, 6, none⟩ = some (.int .i64 4) ∧ w.cell? ⟨g, 7, none⟩ = some (.int .i64 4) ∧ w.cell? ⟨g, 8, none⟩ = some (.slice ai 2 ci) := by
  have hl : P.length = 7 := by rw [← bare_length, hq]; rfl
  match P, hl, hq, h with
  | [p0, p1, p2, p3, p4, p5, p6], _, hq, h =>
    simp only [bare, Qp, List.map_cons, List.map_nil, List.cons.injEq, Prod.mk.injEq] at hq
    obtain ⟨_, _, ⟨hs, hI⟩, _⟩ := hq
    obtain ⟨ai, ci, hv⟩ := (h.ints p2 (by simp)).shape
    rw [hI] at hv
    have hr := h.row
    rcases hr.2 with ⟨_, hn⟩ | ⟨g, cap, cur, rfl, _, hg, _⟩
    · simp at hn
    · have c := fun j hj => World.ownsRow.cellAt hr j hj
      simp only [List.length_cons, List.length_nil] at c
      refine ⟨g, cap, ai, ci, rfl, lt_of_block hg, ?_, ?_, ?_⟩
      · rw [c 6 (by decide)]; simp [ptCells, hs]
      · rw [c 7 (by decide)]; simp [ptCells, hs]
      · rw [c 8 (by decide)]; simp [ptCells, hv]

/-- Below, twice. -/
theorem bt {N : Nat} {a b c : World} (h : Below N a b) (k : Below b.heap.size b c) (hN : N ≤ a.heap.size) : Below N a c := h.trans (k.mono (Nat.le_trans hN h.size))

set_option maxRecDepth 100000 in
set_option maxHeartbeats 4000000 in
theorem awake_any (w : World) : Calls Try.prog 9 #[] w fun e w' => e = .returned (.bool true) ∧ Below w.heap.size w w' := by
  have nA := fun (W : World) => heap_alloc_new W (.cells #[.int .i64 7, .int .i64 9, .int .i64 3, .int .i64 4, .int .i64 5, .int .i64 5, .int .i64 9, .int .i64 20] 46)
  have mk1 : ∀ W : World, Calls Try.prog 14 #[.slice (some ⟨W.heap.size, 0, none⟩) 4 4] (W.alloc (.cells #[.int .i64 7, .int .i64 9, .int .i64 3, .int .i64 4, .int .i64 5, .int .i64 5, .int .i64 9, .int .i64 20] 46)) fun e w' => ∃ a' c', e = .returned (.tuple #[.slice a' 2 c', .int .i64 0]) ∧ Got w' a' Ma ∧ Below W.heap.size W w' := fun W => by
    refine (make_is _ 4 [(7, 9), (3, 4), (5, 5), (9, 20)] Ma _ (by decide) (spAt_block (nA W)) (by decide) Ma_set Ma_mem).mono ?_
    rintro e w' ⟨a', c', rfl, h1, h2⟩
    exact ⟨a', c', rfl, h1, bt ((Below.refl W.heap.size W).alloc (Nat.le_refl _) _) h2 (Nat.le_refl _)⟩
  have mk2 : ∀ W : World, Calls Try.prog 14 #[.slice (some ⟨W.heap.size, 0, none⟩) 1 1] (W.alloc (.cells #[.int .i64 4, .int .i64 3] 46)) fun e w' => e = .returned (.tuple #[.slice none 0 0, .int .i64 20]) ∧ Below W.heap.size W w' := fun W => by
    refine (make_any _ 1 [(4, 3)] _ (by decide) (spAt_block (heap_alloc_new W (.cells #[.int .i64 4, .int .i64 3] 46)))).mono ?_
    rintro e w' ⟨b1, ⟨h, _⟩ | ⟨_, rfl⟩⟩
    · exact absurd h (by decide)
    · exact ⟨rfl, bt ((Below.refl W.heap.size W).alloc (Nat.le_refl _) _) b1 (Nat.le_refl _)⟩
  have nt1 : ∀ (W : World) (a : Option Addr) (c : Nat), Got W a Ma → Calls Try.prog 24 #[.slice a 2 c] W fun e w' => ∃ a' c', e = .returned (.tuple #[.slice a' 3 c', .int .i64 0]) ∧ Got w' a' Mb ∧ Below W.heap.size W w' := fun W a c hg => not_is a c Ma Mb W Ma_set hg Mb_set Mb_mem
  have nt2 : ∀ W : World, Calls Try.prog 24 #[.slice (some ⟨W.heap.size, 0, none⟩) 2 2] (W.alloc (.cells #[.int .i64 3, .int .i64 5, .int .i64 6, .int .i64 7] 46)) fun e w' => e = .returned (.tuple #[.slice none 0 0, .int .i64 1]) ∧ Below W.heap.size W w' := fun W => by
    refine (not_any _ 2 [(3, 5), (6, 7)] _ (spAt_block (heap_alloc_new W (.cells #[.int .i64 3, .int .i64 5, .int .i64 6, .int .i64 7] 46))) (fun x hx => by cases hx; simp) (by decide)).mono ?_
    rintro e w' ⟨b1, ⟨h, _⟩ | ⟨_, rfl⟩⟩
    · exact absurd h (by decide)
    · exact ⟨rfl, bt ((Below.refl W.heap.size W).alloc (Nat.le_refl _) _) b1 (Nat.le_refl _)⟩
  have pt : ∀ (W : World) (a : Option Addr) (c : Nat), Got W a Ma → Calls Try.prog 30 #[.slice (some ⟨W.heap.size + 1, 0, none⟩) 2 2] ((W.alloc (.cells #[.int .i64 4, .int .i64 4] 46)).alloc (.cells #[.slice a 2 c, .slice (some ⟨W.heap.size, 0, none⟩) 1 1] 22)) fun e w' => ∃ g cap ai ci, e = .returned (.tuple #[.slice (some ⟨g, 0, none⟩) 7 cap, .int .i64 0]) ∧ (g < w'.heap.size ∧ w'.cell? ⟨g, 6, none⟩ = some (.int .i64 4) ∧ w'.cell? ⟨g, 7, none⟩ = some (.int .i64 4) ∧ w'.cell? ⟨g, 8, none⟩ = some (.slice ai 2 ci)) ∧ Below W.heap.size W w' := fun W a c hg => by
    have b1 : Below W.heap.size W (W.alloc (.cells #[.int .i64 4, .int .i64 4] 46)) := (Below.refl _ _).alloc (Nat.le_refl _) _
    have hs : (W.alloc (.cells #[.int .i64 4, .int .i64 4] 46)).heap.size = W.heap.size + 1 := by simp
    have hp := pair_at (c1 := c) (c2 := 1) (hg.below b1).at' (spAt_block (L := [(4, 4)]) (heap_alloc_new W (.cells #[.int .i64 4, .int .i64 4] 46))) (hg.below b1).lt (fun x hx => by cases hx; simp)
    rw [hs] at hp
    refine (parts_any (some ⟨W.heap.size + 1, 0, none⟩) 2 [Ma, [(4, 4)]] _ hp (fun L hL => by
      simp only [List.mem_cons, List.not_mem_nil, or_false] at hL
      rcases hL with rfl | rfl <;> decide) (by decide) (by decide)).mono ?_
    rintro e w' ⟨x1, ⟨_, v, P, rfl, o, p⟩ | ⟨h, _⟩⟩
    · obtain ⟨g, cap, ai, ci, rfl, r1, r2, r3, r4⟩ := seven o (p.unique Qp_parts)
      exact ⟨g, cap, ai, ci, rfl, ⟨r1, r2, r3, r4⟩, bt (b1.alloc (by omega) _) x1 (Nat.le_refl _)⟩
    · exact absurd (show [Ma, [(4, 4)]].length ≤ 128 ∧ ∀ L ∈ [Ma, [(4, 4)]], IsSet L by decide) h
  clear nA
  go_enter Try.func9, Try.ntmps9
  go_wp2_with (first
    | (go_at_call 14; refine (mk2 w1).mono ?_; rintro e w2 ⟨rfl, x2⟩; have X2 := hide x2; clear x2)
    | (go_at_call 14; refine (mk1 w).mono ?_; rintro e w1 ⟨a1, c1, rfl, g1, x1⟩; have G1 := hide g1; have X1 := hide x1; clear x1 g1)
    | (go_at_call 24; have hq := G3.out; refine (nt2 w3).mono ?_; rintro e w4 ⟨rfl, x4⟩; have X4 := hide x4; clear x4 hq)
    | (go_at_call 24; refine (nt1 w2 a1 c1 (G1.out.below X2.out)).mono ?_; rintro e w3 ⟨a3, c3, rfl, g3, x3⟩; have G3 := hide g3; have X3 := hide x3; clear g3 x3)
    | (go_at_call 30; have ga := (((G1.out.below X2.out).below X3.out).below X4.out); have gb := (G3.out.below X4.out); refine (pt w4 a1 c1 ga).mono ?_; rintro e w5 ⟨pg, pcap, pai, pci, rfl, ⟨r1, r2, r3, r4⟩, x5⟩; have GA := hide (ga.below x5); have GB := hide (gb.below x5); have X5 := hide x5; clear ga gb x5)
    | (go_at_call 12; fail) | (go_at_call 13; fail))
  clear mk1 mk2 nt1 nt2 pt
  refine (has_any a1 c1 Ma 20 w5 (by decide) GA.out.at').mono ?_
  rw [show hasL Ma 20 = true by decide]
  rintro e w6 ⟨rfl, x6⟩
  have ga6 := hide (GA.out.below x6)
  have gb6 := hide (GB.out.below x6)
  have X6 := hide x6
  have p1 := Nat.lt_of_lt_of_le r1 x6.size
  have p2 := (x6.cell (p := ⟨pg, 6, none⟩) r1).trans r2
  have p3 := (x6.cell (p := ⟨pg, 7, none⟩) r1).trans r3
  have p4 := (x6.cell (p := ⟨pg, 8, none⟩) r1).trans r4
  clear x6 r1 r2 r3 r4
  go_wp2_with (fail)
  refine (has_any a1 c1 Ma 6 w6 (by decide) ga6.out.at').mono ?_
  rw [show hasL Ma 6 = false by decide]
  rintro e w7 ⟨rfl, x7⟩
  have GA7 := hide (ga6.out.below x7)
  have GB7 := hide (gb6.out.below x7)
  have X7 := hide x7
  have q1 := Nat.lt_of_lt_of_le p1 x7.size
  have q2 := (x7.cell (p := ⟨pg, 6, none⟩) p1).trans p2
  have q3 := (x7.cell (p := ⟨pg, 7, none⟩) p1).trans p3
  have q4 := (x7.cell (p := ⟨pg, 8, none⟩) p1).trans p4
  clear x7 p1 p2 p3 p4
  have hsz := size_any a1 c1 Ma w7 (by decide) GA7.out.at'
  rw [show sizeR Ma = 17 by decide] at hsz
  obtain ⟨ba, oa, ea, la, ha1, ha2⟩ := GA7.out.two
  obtain ⟨bb, ob, eb, lb, hb1, hb2⟩ := GB7.out.three
  subst ea eb
  simp only [Ma, List.length_cons, List.length_nil] at hsz
  go_wp2_with (go_at_call 13; refine hsz.mono ?_; rintro e w8 ⟨rfl, x8⟩; have X8 := hide x8; have s1 := (Nat.lt_of_lt_of_le q1 x8.size); have s2 := ((x8.cell (p := ⟨pg, 6, none⟩) q1).trans q2); have s3 := ((x8.cell (p := ⟨pg, 7, none⟩) q1).trans q3); have s4 := ((x8.cell (p := ⟨pg, 8, none⟩) q1).trans q4); clear x8)
  go_ret
  refine ⟨rfl, ?_⟩
  have h0 := Nat.le_refl w.heap.size
  exact bt (bt (bt (bt (bt (bt (bt X1.out X2.out h0) X3.out h0) X4.out h0) X5.out h0) X6.out h0) X7.out h0) X8.out h0
end Go.Proofs.Ytljagefcgijmlaa
