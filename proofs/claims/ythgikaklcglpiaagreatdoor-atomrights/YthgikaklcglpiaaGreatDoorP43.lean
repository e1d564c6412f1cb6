/-
  Of, of the three conditions of awake, by contract. No condition.
-/
import Derived.Test.YthgikaklcglpiaaGreatDoorP42
import Derived.Test.YthgikaklcglpiaaGreatDoorP41
import Derived.Test.YthgikaklcglpiaaGreatDoorP29
import Derived.Test.YthgikaklcglpiaaGreatDoorP13
namespace Go.Proofs.YthgikaklcglpiaaGreatDoor.L9
open Go.RowKit Go.Lib

abbrev knB (w : World) (g : Nat) : Prop := w.heap[g]? = some (.cells #[.int .i64 90, .int .i64 90, .int .i64 80, .int .i64 89] 75 (0, 0))
abbrev mtB (w : World) (g : Nat) : Prop := w.heap[g]? = some (.cells #[.string ⟨#[80, 85, 84]⟩, .string ⟨#[71, 69, 84]⟩, .string ⟨#[80, 85, 84]⟩] 9 (0, 0))
def knT : CT := .mk 8 [] [] [] [(90, 90), (80, 89)] [] [] 0
def mtT : CT := .mk 9 [] [] [] [] [[80, 85, 84], [71, 69, 84], [80, 85, 84]] [] 0
def hsT : CT := .mk 12 [88] [] [] [] [] [] 0
theorem kn_at {w : World} {g base : Nat} (h : knB w g) (hb : base ≤ g) : CtAt w base knT [.int .i64 8, .string ⟨#[]⟩, .string ⟨#[]⟩, .slice none 0 0, .slice (some ⟨g, 0, none⟩) 2 2, .slice none 0 0, .slice none 0 0, .int .i64 0] [g] := by
  unfold knT CtAt
  exact ⟨_, _, _, _, [], [], rfl, World.ownsRow_nil _ _ _ _, ⟨rfl, .inr ⟨g, 2, _, rfl, hb, h, Nat.le_refl _, by decide, rfl, rfl⟩⟩, World.ownsRow_nil _ _ _ _, World.ownsRow_nil _ _ _ _, ⟨rfl, rfl⟩, rfl⟩
theorem mt_at {w : World} {g base : Nat} (h : mtB w g) (hb : base ≤ g) : CtAt w base mtT [.int .i64 9, .string ⟨#[]⟩, .string ⟨#[]⟩, .slice none 0 0, .slice none 0 0, .slice (some ⟨g, 0, none⟩) 3 3, .slice none 0 0, .int .i64 0] [g] := by
  unfold mtT CtAt
  exact ⟨_, _, _, _, [], [], rfl, World.ownsRow_nil _ _ _ _, World.ownsRow_nil _ _ _ _, ⟨rfl, .inr ⟨g, 3, _, rfl, hb, h, Nat.le_refl _, by decide, rfl, rfl⟩⟩, World.ownsRow_nil _ _ _ _, ⟨rfl, rfl⟩, rfl⟩
theorem hs_at {w : World} {base : Nat} : CtAt w base hsT [.int .i64 12, .string ⟨#[88]⟩, .string ⟨#[]⟩, .slice none 0 0, .slice none 0 0, .slice none 0 0, .slice none 0 0, .int .i64 0] [] := by
  unfold hsT CtAt
  exact ⟨_, _, _, _, [], [], rfl, World.ownsRow_nil _ _ _ _, World.ownsRow_nil _ _ _ _, World.ownsRow_nil _ _ _ _, World.ownsRow_nil _ _ _ _, ⟨rfl, rfl⟩, rfl⟩
theorem kn_ok : CondOk knT := ⟨.inl ⟨rfl, rfl, rfl, rfl, rfl, rfl⟩, by intro z hz; simp [knT, CT.sp] at hz; rcases hz with rfl | rfl <;> simp [Dg3]⟩
theorem mt_ok : CondOk mtT := ⟨.inr (.inl ⟨rfl, rfl, rfl, rfl, rfl, rfl⟩), fun z hz => by cases hz⟩
theorem hs_ok : CondOk hsT := ⟨.inr (.inr ⟨rfl, rfl, rfl, rfl, rfl, rfl⟩), fun z hz => by cases hz⟩
theorem kn_wr : ∃ y, polW [⟨2, [97], knT, 0⟩] ([], true) = some y := Option.isSome_iff_exists.1 (by decide)
theorem mt_wr : ∃ y, polW [⟨2, [97], mtT, 0⟩] ([], true) = some y := Option.isSome_iff_exists.1 (by decide)
theorem hs_wr : ∃ y, polW [⟨2, [97], hsT, 0⟩] ([], true) = some y := Option.isSome_iff_exists.1 (by decide)
theorem all_wr : ∃ y, polW [⟨2, [97], knT, 0⟩, ⟨3, [98], knT, 0⟩] ([], true) = some y := Option.isSome_iff_exists.1 (by decide)
theorem AtF.k {w : World} {base : Nat} {a : L5.AD} (h : AtF w base a) (K : Int) : AtF w base { a with k := K } := ⟨⟨h.at_.sp, h.at_.ns, h.at_.pc, h.at_.lsp, h.at_.lns, h.at_.lD, h.at_.lpc, h.at_.lnm, h.at_.lst⟩, h.so, h.no, h.D⟩
def PtA (a : L5.AD) : Prop := a.k = 8 ∧ a.nm = [] ∧ a.ns = [] ∧ a.D = [] ∧ a.sp = [(80, 90)]
def MtA (a : L5.AD) : Prop := a.k = 9 ∧ a.nm = [] ∧ a.ns = [[71, 69, 84], [80, 85, 84]] ∧ a.D = [] ∧ a.sp = []
theorem PtA.rg {a : L5.AD} (h : PtA a) : L5.rgP a 8 := by
  obtain ⟨h1, h2, h3, h4, h5⟩ := h
  show L5.onl a a.spO = true ∧ L5.Hst a.sp 65535
  refine ⟨?_, ?_⟩
  · simp [L5.onl, L5.sameA, L5.AD.spO, h2, h3, h4, L5.pcsEq]
  · rw [h5]; unfold L5.Hst; decide
theorem MtA.rg {a : L5.AD} (h : MtA a) : L5.rgP a 9 := by
  obtain ⟨h1, h2, h3, h4, h5⟩ := h
  show L5.onl a a.nsO = true ∧ L5.AM a.ns
  refine ⟨?_, ?_⟩
  · simp [L5.onl, L5.sameA, L5.AD.nsO, h2, h5, h4, L5.pcsEq]
  · rw [h3]
    refine ⟨by decide, by decide, fun i hi => ?_⟩
    rcases (by simp at hi; omega : i = 0 ∨ i = 1) with rfl | rfl
    · exact ⟨by decide, fun h => by omega⟩
    · exact ⟨by decide, fun _ => by decide⟩
theorem PtA.rgA {a : L5.AD} (h : PtA a) : L5.RgA a := ⟨by rw [h.1]; decide, by rw [h.1]; decide, by rw [h.1]; exact h.rg⟩
theorem MtA.rgA {a : L5.AD} (h : MtA a) : L5.RgA a := ⟨by rw [h.1]; decide, by rw [h.1]; decide, by rw [h.1]; exact h.rg⟩
theorem srt_mt : Lib.compact (srt [[80, 85, 84], [71, 69, 84], [80, 85, 84]]) = [[71, 69, 84], [80, 85, 84]] := by
  have : srt [[80, 85, 84], [71, 69, 84], [80, 85, 84]] = [[71, 69, 84], [80, 85, 84], [80, 85, 84]] := by
    unfold srt
    simp +decide [List.mergeSort, List.MergeSort.Internal.splitInTwo]
  rw [this]
  decide
theorem of_known {w : World} {g : Nat} (h : knB w g) : Calls Tryz.prog 13 #[.agg #[.int .i64 8, .string ⟨#[]⟩, .string ⟨#[]⟩, .slice none 0 0, .slice (some ⟨g, 0, none⟩) 2 2, .slice none 0 0, .slice none 0 0, .int .i64 0]] w fun e w' => (∃ a : L5.AD, e = .returned (.tuple #[.agg a.cells, .int .i64 0]) ∧ PtA a ∧ AtF w' w.heap.size a) ∧ Below w.heap.size w w' := by
  obtain ⟨y, hy⟩ := kn_wr
  refine (of_ok 8 (fun a => a.nm = [] ∧ a.ns = [] ∧ a.D = [] ∧ L5.IsSet a.sp ∧ ∀ n, L5.memB n a.sp = L5.memB n [(90, 90), (80, 89)]) true ?_ ?_).mono ?_
  rotate_left
  · intro V x
    have hg := (x.block g (lt_of_block h)).trans h
    refine made_ok (b0 := 0) (kn_at hg (Nat.zero_le _)) (by simp) (Nat.zero_le _) kn_ok hy 8 rfl (by decide) (by decide) _ ?_
    intro U P xu hP
    have hgu := (xu.block g (lt_of_block hg)).trans hg
    refine ports_mk (L := [(90, 90), (80, 89)]) hP (by decide) (.inr ⟨g, 0, rfl, lt_of_block hgu, fun i hi => ?_⟩) ?_
    · rcases (by simp at hi; omega : i = 0 ∨ i = 1) with rfl | rfl <;> (unfold L5.Cell2; refine ⟨?_, ?_⟩ <;> (rw [cell_of_row _ _ _ _ _ _ hgu]; rfl))
    · intro s hs
      simp at hs
      rcases hs with rfl | rfl <;> decide
  · rintro e w' ⟨⟨a, rfl, ⟨h1, h2, h3, h4, h5⟩, hat⟩, x⟩
    have hsp : a.sp = [(80, 90)] := L5.IsSet.unique h4 (by decide) (fun n => by
      rw [h5, Bool.eq_iff_iff, L5.memB_iff, L5.memB_iff]
      simp
      omega)
    exact ⟨⟨_, rfl, ⟨rfl, h1, h2, h3, hsp⟩, hat.k 8⟩, x⟩
  · rintro a ⟨h1, h2, h3, h4, h5⟩
    have hsp : a.sp = [(80, 90)] := L5.IsSet.unique h4 (by decide) (fun n => by
      rw [h5, Bool.eq_iff_iff, L5.memB_iff, L5.memB_iff]
      simp
      omega)
    exact ⟨fun _ => rfl, fun _ => PtA.rgA (a := { a with k := 8 }) ⟨rfl, h1, h2, h3, hsp⟩⟩
theorem of_meth {w : World} {g : Nat} (h : mtB w g) : Calls Tryz.prog 13 #[.agg #[.int .i64 9, .string ⟨#[]⟩, .string ⟨#[]⟩, .slice none 0 0, .slice none 0 0, .slice (some ⟨g, 0, none⟩) 3 3, .slice none 0 0, .int .i64 0]] w fun e w' => (∃ a : L5.AD, e = .returned (.tuple #[.agg a.cells, .int .i64 0]) ∧ MtA a ∧ AtF w' w.heap.size a) ∧ Below w.heap.size w w' := by
  obtain ⟨y, hy⟩ := mt_wr
  refine (of_ok 9 (fun a => a.nm = [] ∧ a.ns = [[71, 69, 84], [80, 85, 84]] ∧ a.D = [] ∧ a.sp = []) true ?_ ?_).mono ?_
  rotate_left
  · intro V x
    have hg := (x.block g (lt_of_block h)).trans h
    refine made_ok (b0 := 0) (mt_at hg (Nat.zero_le _)) (by simp) (Nat.zero_le _) mt_ok hy 9 rfl (by decide) (by decide) _ ?_
    intro U P xu hP
    have hgu := (xu.block g (lt_of_block hg)).trans hg
    refine methods_mk (L := [[80, 85, 84], [71, 69, 84], [80, 85, 84]]) hP (by decide) (by decide) (.inr ⟨g, 0, rfl, lt_of_block hgu, fun i hi => ?_⟩) ?_ srt_mt (by decide) ?_
    · rcases (by simp at hi; omega : i = 0 ∨ i = 1 ∨ i = 2) with rfl | rfl | rfl <;> (rw [cell_of_row _ _ _ _ _ _ hgu]; rfl)
    · intro s hs
      simp at hs
      rcases hs with rfl | rfl | rfl <;> decide
    · intro s hs
      simp at hs
      rcases hs with rfl | rfl <;> decide
  · rintro e w' ⟨⟨a, rfl, ⟨h1, h2, h3, h4⟩, hat⟩, x⟩
    exact ⟨⟨_, rfl, ⟨rfl, h1, h2, h3, h4⟩, hat.k 9⟩, x⟩
  · rintro a ⟨h1, h2, h3, h4⟩
    exact ⟨fun _ => rfl, fun _ => MtA.rgA (a := { a with k := 9 }) ⟨rfl, h1, h2, h3, h4⟩⟩
theorem of_has (w : World) : Calls Tryz.prog 13 #[.agg #[.int .i64 12, .string ⟨#[88]⟩, .string ⟨#[]⟩, .slice none 0 0, .slice none 0 0, .slice none 0 0, .slice none 0 0, .int .i64 0]] w fun e w' => e = .returned (.tuple #[.agg #[.int .i64 0, .string ⟨#[]⟩, .slice none 0 0, .slice none 0 0, .slice none 0 0], .int .i64 1]) ∧ Below w.heap.size w w' := by
  obtain ⟨y, hy⟩ := hs_wr
  refine (of_ok 12 (fun a => a = ⟨0, [88], [], none, 0, [], none, 0, [], none, 0⟩) false ?_ ?_).mono ?_
  rotate_left
  · intro V x
    refine made_ok (b0 := 0) hs_at (by simp) (Nat.zero_le _) hs_ok hy 12 rfl (by decide) (by decide) _ ?_
    intro U P xu hP
    exact has_mk (nm := [88]) hP (by decide)
  · rintro e w' ⟨⟨a, rfl, _, hat⟩, x⟩
    exact ⟨rfl, x⟩
  · rintro a rfl
    refine ⟨fun h => ?_, fun h => by cases h⟩
    have := h.2.2.2
    revert this
    show L5.HN [88] → _
    unfold L5.HN
    decide
end Go.Proofs.YthgikaklcglpiaaGreatDoor.L9
/-
  Is a test among those that were found, by contract: of none, of one. Condition: as in the texts before.
-/
namespace Go.Proofs.YthgikaklcglpiaaGreatDoor.L9
open Go.RowKit Go.Lib

set_option maxRecDepth 100000 in
set_option maxHeartbeats 2000000 in
theorem there_any {w : World} {A : Nat} (a b : L5.AD) (hA : w.heap[A]? = some (.cells a.cells 35 (0, 0))) (ha : L5.AtW w a) (hb : L5.AtW w b) :
    Calls Tryz.prog 195 #[.agg b.cells, .pointer (some ⟨A, 0, none⟩)] w fun e w' => e = .returned (.bool (L5.sameA a b)) ∧ Below w.heap.size w w' := by
  obtain ⟨W, hW⟩ : ∃ W, W = w.alloc (.cells #[.int .i64 b.k, .string ⟨b.nm.toArray⟩, .slice b.so b.sp.length b.sc, .slice b.no b.ns.length b.nc, .slice b.po b.D.length b.pc] 35) := ⟨_, rfl⟩
  have XW := hide (show Below w.heap.size w W by rw [hW]; exact al (Below.refl _ _) _)
  have BB := hide (show W.heap[w.heap.size]? = some (.cells #[.int .i64 b.k, .string ⟨b.nm.toArray⟩, .slice b.so b.sp.length b.sc, .slice b.no b.ns.length b.nc, .slice b.po b.D.length b.pc] 35 (0, 0)) by rw [hW]; exact heap_alloc_new w _)
  have BA : Hid (W.heap[A]? = some (.cells #[.int .i64 a.k, .string ⟨a.nm.toArray⟩, .slice a.so a.sp.length a.sc, .slice a.no a.ns.length a.nc, .slice a.po a.D.length a.pc] 35 (0, 0))) := (XW.out.block A (lt_of_block hA)).trans hA
  have HS : Hid (Calls Tryz.prog 21 #[.agg #[.int .i64 a.k, .string ⟨a.nm.toArray⟩, .slice a.so a.sp.length a.sc, .slice a.no a.ns.length a.nc, .slice a.po a.D.length a.pc], .agg #[.int .i64 b.k, .string ⟨b.nm.toArray⟩, .slice b.so b.sp.length b.sc, .slice b.no b.ns.length b.nc, .slice b.po b.D.length b.pc]] W fun e w' => e = .returned (.bool (L5.sameA a b)) ∧ Below W.heap.size W w') := L5.same_any a b W (ha.below XW.out) (hb.below XW.out)
  rw [show b.cells = #[.int .i64 b.k, .string ⟨b.nm.toArray⟩, .slice b.so b.sp.length b.sc, .slice b.no b.ns.length b.nc, .slice b.po b.D.length b.pc] from rfl]
  clear hA ha hb
  generalize L5.sameA a b = q at *
  obtain ⟨P, hP⟩ : ∃ P, P = w.heap.size := ⟨_, rfl⟩
  go_enter Tryz.func195, Tryz.ntmps195
  go_upto_region 1 with fail
  rw [← hW, ← hP]
  rw [← hP] at BB
  clear hW hP
  obtain ⟨t0, t1, t2, t3, t4⟩ := L5.five_of BA.out
  obtain ⟨s0, s1, s2, s3, s4⟩ := L5.five_of BB.out
  go_wp2_with (fail)
  refine HS.out.mono ?_
  rintro e w2 ⟨rfl, x2⟩
  have X2 := hide (bt XW.out x2 (Nat.le_refl _))
  clear x2 t0 t1 t2 t3 t4 s0 s1 s2 s3 s4
  go_wp2
  go_ret
  exact ⟨rfl, X2.out⟩
theorem enters195 : ∀ (args : Array Value) (w : World), (callFunc 195 args).run Tryz.prog w = .ok (.enter 195 args) w := enters_of Tryz.func195 (by kernel_rfl) rfl
set_option maxRecDepth 100000 in
set_option maxHeartbeats 2000000 in
theorem index_none (A c : Nat) (ao : Option Addr) (w : World) : Calls Tryz.prog 252 #[.slice ao 0 c, .func (.func 195) #[] #[.pointer (some ⟨A, 0, none⟩)]] w fun e w' => e = .returned (.int .i64 (-1)) ∧ w' = w := by
  go_enter Tryz.func252, Tryz.ntmps252
  go_wp2
  go_loopg [8] 1 (fun g x wr => x = .int .i64 0 ∧ wr = w ∧ 0 < g)
  case atStart => exact ⟨rfl, rfl, by omega⟩
  case round =>
    obtain ⟨rfl, hw, hg⟩ := hrel
    have HW := hide hw
    clear hw
    go_wp2
    go_ret
    exact ⟨rfl, HW.out⟩
set_option maxRecDepth 100000 in
set_option maxHeartbeats 2000000 in
theorem index_one {w : World} {A g c : Nat} (a b : L5.AD) (hA : w.heap[A]? = some (.cells a.cells 35 (0, 0))) (ha : L5.AtW w a) (hb : L5.AtW w b) (hg : w.cell? ⟨g, 0, none⟩ = some (.int .i64 b.k) ∧ w.cell? ⟨g, 1, none⟩ = some (.string ⟨b.nm.toArray⟩) ∧ w.cell? ⟨g, 2, none⟩ = some (.slice b.so b.sp.length b.sc) ∧ w.cell? ⟨g, 3, none⟩ = some (.slice b.no b.ns.length b.nc) ∧ w.cell? ⟨g, 4, none⟩ = some (.slice b.po b.D.length b.pc)) (hs : L5.sameA a b = true) :
    Calls Tryz.prog 252 #[.slice (some ⟨g, 0, none⟩) 1 c, .func (.func 195) #[] #[.pointer (some ⟨A, 0, none⟩)]] w fun e w' => e = .returned (.int .i64 0) ∧ Below w.heap.size w w' := by
  have HT := hide (there_any a b hA ha hb)
  rw [show b.cells = #[.int .i64 b.k, .string ⟨b.nm.toArray⟩, .slice b.so b.sp.length b.sc, .slice b.no b.ns.length b.nc, .slice b.po b.D.length b.pc] from rfl, hs] at HT
  have hent := enters195
  have HG := hide hg
  clear hA ha hb hs hg
  go_enter Tryz.func252, Tryz.ntmps252
  go_wp2
  go_loopg [8, 5] 1 (fun g x x5 wr => x = .int .i64 0 ∧ wr = w ∧ 0 < g)
  case atStart => exact ⟨rfl, rfl, by omega⟩
  case round =>
    obtain ⟨rfl, hw, hg⟩ := hrel
    have hw2 := hw.symm
    clear hw
    subst hw2
    obtain ⟨t0, t1, t2, t3, t4⟩ := HG.out
    go_wp2_with (fail)
    refine HT.out.mono ?_
    rintro e w2 ⟨rfl, x2⟩
    have X2 := hide x2
    clear x2 t0 t1 t2 t3 t4
    go_wp2
    go_ret
    exact ⟨rfl, X2.out⟩
theorem cont_none (A c : Nat) (ao : Option Addr) (w : World) : Calls Tryz.prog 196 #[.slice ao 0 c, .func (.func 195) #[] #[.pointer (some ⟨A, 0, none⟩)]] w fun e w' => e = .returned (.bool false) ∧ w' = w := by
  go_enter Tryz.func196, Tryz.ntmps196
  go_wp2_with (go_at_call 252; refine (index_none A c ao w).mono ?_; rintro e w2 ⟨rfl, hw⟩; have hw2 := hw.symm; clear hw; subst hw2)
  go_ret
  exact ⟨rfl, rfl⟩
theorem cont_one {w : World} {A g c : Nat} (a b : L5.AD) (hA : w.heap[A]? = some (.cells a.cells 35 (0, 0))) (ha : L5.AtW w a) (hb : L5.AtW w b) (hg : w.cell? ⟨g, 0, none⟩ = some (.int .i64 b.k) ∧ w.cell? ⟨g, 1, none⟩ = some (.string ⟨b.nm.toArray⟩) ∧ w.cell? ⟨g, 2, none⟩ = some (.slice b.so b.sp.length b.sc) ∧ w.cell? ⟨g, 3, none⟩ = some (.slice b.no b.ns.length b.nc) ∧ w.cell? ⟨g, 4, none⟩ = some (.slice b.po b.D.length b.pc)) (hs : L5.sameA a b = true) :
    Calls Tryz.prog 196 #[.slice (some ⟨g, 0, none⟩) 1 c, .func (.func 195) #[] #[.pointer (some ⟨A, 0, none⟩)]] w fun e w' => e = .returned (.bool true) ∧ Below w.heap.size w w' := by
  have HI := hide (index_one (c := c) a b hA ha hb hg hs)
  clear hA ha hb hg hs
  go_enter Tryz.func196, Tryz.ntmps196
  go_wp2_with (go_at_call 252; refine HI.out.mono ?_; rintro e w2 ⟨rfl, x2⟩; have X2 := hide x2; clear x2)
  go_ret
  exact ⟨rfl, X2.out⟩
end Go.Proofs.YthgikaklcglpiaaGreatDoor.L9
