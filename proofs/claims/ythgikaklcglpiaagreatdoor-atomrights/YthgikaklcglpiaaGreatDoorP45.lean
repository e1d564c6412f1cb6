/-
  A policy of two items is gone through; All of it. Condition: as in the texts before.
-/
import Derived.Test.YthgikaklcglpiaaGreatDoorP44
namespace Go.Proofs.YthgikaklcglpiaaGreatDoor.L9
open Go.RowKit Go.Lib

theorem FdA.mono {w : World} {F base base' : Nat} {a : L5.AD} {g c : Nat} (h : FdA w F base a g c) (hb : base' ≤ base) : FdA w F base' a g c := ⟨h.fb, own_mono h.row hb, h.at_.mono hb⟩
abbrev itB (w : World) (S ga gb : Nat) : Prop := w.heap[S]? = some (.cells #[.int .i64 2, .string ⟨#[97]⟩, .int .i64 8, .string ⟨#[]⟩, .string ⟨#[]⟩, .slice none 0 0, .slice (some ⟨ga, 0, none⟩) 2 2, .slice none 0 0, .slice none 0 0, .int .i64 0, .int .i64 0, .int .i64 3, .string ⟨#[98]⟩, .int .i64 8, .string ⟨#[]⟩, .string ⟨#[]⟩, .slice none 0 0, .slice (some ⟨gb, 0, none⟩) 2 2, .slice none 0 0, .slice none 0 0, .int .i64 0, .int .i64 0] 71 (0, 0))
set_option maxRecDepth 100000 in
set_option maxHeartbeats 4000000 in
theorem policy_two {w : World} {F S ga gb : Nat} (hF : w.heap[F]? = some (.cells #[.slice none 0 0] 106 (0, 0))) (hS : itB w S ga gb) (ha : knB w ga) (hb : knB w gb) :
    Calls Tryz.prog 55 #[.pointer (some ⟨F, 0, none⟩), .agg #[.slice (some ⟨S, 0, none⟩) 2 2]] w fun e w' => e = .returned (.bool true) ∧ (∃ a g1 c1, FdA w' F w.heap.size a g1 c1 ∧ PtA a) ∧ Kept (fun k => k = F) w w' := by
  obtain ⟨W, hW⟩ : ∃ W, W = w.alloc (.cells #[.slice (some ⟨S, 0, none⟩) 2 2] 61) := ⟨_, rfl⟩
  have XW := hide (show Below w.heap.size w W by rw [hW]; exact al (Below.refl _ _) _)
  have BP := hide (show W.heap[w.heap.size]? = some (.cells #[.slice (some ⟨S, 0, none⟩) 2 2] 61 (0, 0)) by rw [hW]; exact heap_alloc_new w _)
  have HNE : Hid (S ≠ F ∧ ga ≠ F ∧ gb ≠ F) := ⟨fun e => block_ne hS hF (by decide) e, fun e => block_ne ha hF (by decide) e, fun e => block_ne hb hF (by decide) e⟩
  have BF := hide ((XW.out.block F (lt_of_block hF)).trans hF)
  have BS := hide ((XW.out.block S (lt_of_block hS)).trans hS)
  have Bga := hide ((XW.out.block ga (lt_of_block ha)).trans ha)
  have Bgb := hide ((XW.out.block gb (lt_of_block hb)).trans hb)
  clear hF hS ha hb
  obtain ⟨P, hP⟩ : ∃ P, P = w.heap.size := ⟨_, rfl⟩
  go_enter Tryz.func55, Tryz.ntmps55
  go_upto_region 1 with fail
  rw [← hW, ← hP]
  rw [← hP] at BP
  clear hW hP
  have p0 : W.cell? ⟨P, 0, none⟩ = some (.slice (some ⟨S, 0, none⟩) 2 2) := by rw [cell_of_row _ _ _ _ _ _ BP.out]; rfl
  go_wp2
  clear p0 BP
  go_loopg [6, 10] 3 (fun g x6 x wr => Hid (Kept (fun k => k = F) W wr) ∧ ((x = .int .i64 0 ∧ Hid (wr.heap[F]? = some (.cells #[.slice none 0 0] 106 (0, 0))) ∧ 2 < g) ∨ ((x = .int .i64 1 ∧ Hid (∃ a g1 c1, FdA wr F w.heap.size a g1 c1 ∧ PtA a) ∧ 1 < g) ∨ (x = .int .i64 2 ∧ Hid (∃ a g1 c1, FdA wr F w.heap.size a g1 c1 ∧ PtA a) ∧ 0 < g))))
  case atStart => exact ⟨hide (Kept.refl _ _), .inl ⟨rfl, BF, by omega⟩⟩
  case round =>
    obtain ⟨hK, ⟨rfl, HF, hg⟩ | ⟨rfl, HF, hg⟩ | ⟨rfl, HF, hg⟩⟩ := hrel
    · have K0 := hide hK.out
      have HS := hide ((K0.out.block S (lt_of_block BS.out) HNE.out.1).trans BS.out)
      have HG := hide ((K0.out.block ga (lt_of_block Bga.out) HNE.out.2.1).trans Bga.out)
      have HGG := hide hg
      clear hg hK
      have e0 : wr.cell? ⟨S, 0, none⟩ = some (.int .i64 2) := by rw [cell_of_row _ _ _ _ _ _ HS.out]; rfl
      have e1 : wr.cell? ⟨S, 1, none⟩ = some (.string ⟨#[97]⟩) := by rw [cell_of_row _ _ _ _ _ _ HS.out]; rfl
      have e2 : wr.cell? ⟨S, 2, none⟩ = some (.int .i64 8) := by rw [cell_of_row _ _ _ _ _ _ HS.out]; rfl
      have e3 : wr.cell? ⟨S, 3, none⟩ = some (.string ⟨#[]⟩) := by rw [cell_of_row _ _ _ _ _ _ HS.out]; rfl
      have e4 : wr.cell? ⟨S, 4, none⟩ = some (.string ⟨#[]⟩) := by rw [cell_of_row _ _ _ _ _ _ HS.out]; rfl
      have e5 : wr.cell? ⟨S, 5, none⟩ = some (.slice none 0 0) := by rw [cell_of_row _ _ _ _ _ _ HS.out]; rfl
      have e6 : wr.cell? ⟨S, 6, none⟩ = some (.slice (some ⟨ga, 0, none⟩) 2 2) := by rw [cell_of_row _ _ _ _ _ _ HS.out]; rfl
      have e7 : wr.cell? ⟨S, 7, none⟩ = some (.slice none 0 0) := by rw [cell_of_row _ _ _ _ _ _ HS.out]; rfl
      have e8 : wr.cell? ⟨S, 8, none⟩ = some (.slice none 0 0) := by rw [cell_of_row _ _ _ _ _ _ HS.out]; rfl
      have e9 : wr.cell? ⟨S, 9, none⟩ = some (.int .i64 0) := by rw [cell_of_row _ _ _ _ _ _ HS.out]; rfl
      have e10 : wr.cell? ⟨S, 10, none⟩ = some (.int .i64 0) := by rw [cell_of_row _ _ _ _ _ _ HS.out]; rfl
      have XA := hide (show Below wr.heap.size wr (wr.alloc (.cells #[.int .i64 2, .string ⟨#[97]⟩, .int .i64 8, .string ⟨#[]⟩, .string ⟨#[]⟩, .slice none 0 0, .slice (some ⟨ga, 0, none⟩) 2 2, .slice none 0 0, .slice none 0 0, .int .i64 0, .int .i64 0] 71)) from al (Below.refl _ _) _)
      have XX := hide (bt XW.out (show Below W.heap.size W W from Below.refl _ _) (Nat.le_refl _))
      have HC := hide (cond_first (w := wr.alloc (.cells #[.int .i64 2, .string ⟨#[97]⟩, .int .i64 8, .string ⟨#[]⟩, .string ⟨#[]⟩, .slice none 0 0, .slice (some ⟨ga, 0, none⟩) 2 2, .slice none 0 0, .slice none 0 0, .int .i64 0, .int .i64 0] 71)) (F := F) (g := ga) ((XA.out.block ga (lt_of_block HG.out)).trans HG.out) ((XA.out.block F (lt_of_block HF.out)).trans HF.out))
      go_wp2_with (fail)
      refine HC.out.mono ?_
      rintro e w2 ⟨rfl, ⟨a, g1, c1, hfd, hpa⟩, k2⟩
      have HW1 : Hid (w.heap.size ≤ (wr.alloc (.cells #[.int .i64 2, .string ⟨#[97]⟩, .int .i64 8, .string ⟨#[]⟩, .string ⟨#[]⟩, .slice none 0 0, .slice (some ⟨ga, 0, none⟩) 2 2, .slice none 0 0, .slice none 0 0, .int .i64 0, .int .i64 0] 71)).heap.size) := Nat.le_trans XW.out.size (Nat.le_trans K0.out.size XA.out.size)
      have H2 := hide (⟨a, g1, c1, hfd.mono HW1.out, hpa⟩ : ∃ a g1 c1, FdA w2 F w.heap.size a g1 c1 ∧ PtA a)
      have K2 : Hid (Kept (fun k => k = F) W w2) := (K0.out.trans (Kept.of_below XA.out)).trans k2
      clear hfd hpa k2 HC HF HW1
      clear e0 e1 e2 e3 e4 e5 e6 e7 e8 e9 e10
      clear XA HS HG K0 XX
      go_wp2
      go_roundg 2
      case measure => have := HGG.out; omega
      case rel => exact ⟨K2, .inr (.inl ⟨by first | rfl | go_num, H2, by omega⟩)⟩
    · have K0 := hide hK.out
      have HS := hide ((K0.out.block S (lt_of_block BS.out) HNE.out.1).trans BS.out)
      have HG := hide ((K0.out.block gb (lt_of_block Bgb.out) HNE.out.2.2).trans Bgb.out)
      have HGG := hide hg
      clear hg hK
      have e0 : wr.cell? ⟨S, 11, none⟩ = some (.int .i64 3) := by rw [cell_of_row _ _ _ _ _ _ HS.out]; rfl
      have e1 : wr.cell? ⟨S, 12, none⟩ = some (.string ⟨#[98]⟩) := by rw [cell_of_row _ _ _ _ _ _ HS.out]; rfl
      have e2 : wr.cell? ⟨S, 13, none⟩ = some (.int .i64 8) := by rw [cell_of_row _ _ _ _ _ _ HS.out]; rfl
      have e3 : wr.cell? ⟨S, 14, none⟩ = some (.string ⟨#[]⟩) := by rw [cell_of_row _ _ _ _ _ _ HS.out]; rfl
      have e4 : wr.cell? ⟨S, 15, none⟩ = some (.string ⟨#[]⟩) := by rw [cell_of_row _ _ _ _ _ _ HS.out]; rfl
      have e5 : wr.cell? ⟨S, 16, none⟩ = some (.slice none 0 0) := by rw [cell_of_row _ _ _ _ _ _ HS.out]; rfl
      have e6 : wr.cell? ⟨S, 17, none⟩ = some (.slice (some ⟨gb, 0, none⟩) 2 2) := by rw [cell_of_row _ _ _ _ _ _ HS.out]; rfl
      have e7 : wr.cell? ⟨S, 18, none⟩ = some (.slice none 0 0) := by rw [cell_of_row _ _ _ _ _ _ HS.out]; rfl
      have e8 : wr.cell? ⟨S, 19, none⟩ = some (.slice none 0 0) := by rw [cell_of_row _ _ _ _ _ _ HS.out]; rfl
      have e9 : wr.cell? ⟨S, 20, none⟩ = some (.int .i64 0) := by rw [cell_of_row _ _ _ _ _ _ HS.out]; rfl
      have e10 : wr.cell? ⟨S, 21, none⟩ = some (.int .i64 0) := by rw [cell_of_row _ _ _ _ _ _ HS.out]; rfl
      have XA := hide (show Below wr.heap.size wr (wr.alloc (.cells #[.int .i64 3, .string ⟨#[98]⟩, .int .i64 8, .string ⟨#[]⟩, .string ⟨#[]⟩, .slice none 0 0, .slice (some ⟨gb, 0, none⟩) 2 2, .slice none 0 0, .slice none 0 0, .int .i64 0, .int .i64 0] 71)) from al (Below.refl _ _) _)
      have XX := hide (bt XW.out (show Below W.heap.size W W from Below.refl _ _) (Nat.le_refl _))
      obtain ⟨a, g1, c1, hfd, hpa⟩ := HF.out
      have HC := hide (cond_there (w := wr.alloc (.cells #[.int .i64 3, .string ⟨#[98]⟩, .int .i64 8, .string ⟨#[]⟩, .string ⟨#[]⟩, .slice none 0 0, .slice (some ⟨gb, 0, none⟩) 2 2, .slice none 0 0, .slice none 0 0, .int .i64 0, .int .i64 0] 71)) (F := F) (g := gb) ((XA.out.block gb (lt_of_block HG.out)).trans HG.out) (hfd.below XA.out) hpa)
      have HFD := hide hfd
      have HPA := hide hpa
      clear hfd hpa
      go_wp2_with (fail)
      refine HC.out.mono ?_
      rintro e w2 ⟨rfl, x2⟩
      have H2 := hide (⟨a, g1, c1, HFD.out.below (bt XA.out x2 (Nat.le_refl _)), HPA.out⟩ : ∃ a g1 c1, FdA w2 F w.heap.size a g1 c1 ∧ PtA a)
      have K2 : Hid (Kept (fun k => k = F) W w2) := K0.out.trans (Kept.of_below (bt XA.out x2 (Nat.le_refl _)))
      clear x2 HC HF HFD HPA
      clear e0 e1 e2 e3 e4 e5 e6 e7 e8 e9 e10
      clear XA HS HG K0 XX
      go_wp2
      go_roundg 1
      case measure => have := HGG.out; omega
      case rel => exact ⟨K2, .inr (.inr ⟨by first | rfl | go_num, H2, by omega⟩)⟩
    · go_wp2
      go_ret
      exact ⟨rfl, HF.out, (Kept.of_below XW.out).trans hK.out⟩
end Go.Proofs.YthgikaklcglpiaaGreatDoor.L9
/-
  All, of a policy of two items, by contract. Condition: as in the texts before.
-/
namespace Go.Proofs.YthgikaklcglpiaaGreatDoor.L9
open Go.RowKit Go.Lib

def twI : List IT := [⟨2, [97], knT, 0⟩, ⟨3, [98], knT, 0⟩]
theorem tw_at {w : World} {S ga gb : Nat} (hS : itB w S ga gb) (ha : knB w ga) (hb : knB w gb) (hn : ga ≠ gb) : PolA w 0 twI (.slice (some ⟨S, 0, none⟩) 2 2) [.int .i64 2, .string ⟨#[97]⟩, .int .i64 8, .string ⟨#[]⟩, .string ⟨#[]⟩, .slice none 0 0, .slice (some ⟨ga, 0, none⟩) 2 2, .slice none 0 0, .slice none 0 0, .int .i64 0, .int .i64 0, .int .i64 3, .string ⟨#[98]⟩, .int .i64 8, .string ⟨#[]⟩, .string ⟨#[]⟩, .slice none 0 0, .slice (some ⟨gb, 0, none⟩) 2 2, .slice none 0 0, .slice none 0 0, .int .i64 0, .int .i64 0] [ga, gb] := by
  refine ⟨⟨rfl, .inr ⟨S, 2, _, rfl, Nat.zero_le _, hS, Nat.le_refl _, by decide, rfl, rfl⟩⟩, ?_, ?_⟩
  · exact ⟨[.int .i64 8, .string ⟨#[]⟩, .string ⟨#[]⟩, .slice none 0 0, .slice (some ⟨ga, 0, none⟩) 2 2, .slice none 0 0, .slice none 0 0, .int .i64 0], [ga], [.int .i64 3, .string ⟨#[98]⟩, .int .i64 8, .string ⟨#[]⟩, .string ⟨#[]⟩, .slice none 0 0, .slice (some ⟨gb, 0, none⟩) 2 2, .slice none 0 0, .slice none 0 0, .int .i64 0, .int .i64 0], [gb], rfl, rfl, kn_at ha (Nat.zero_le _), [.int .i64 8, .string ⟨#[]⟩, .string ⟨#[]⟩, .slice none 0 0, .slice (some ⟨gb, 0, none⟩) 2 2, .slice none 0 0, .slice none 0 0, .int .i64 0], [gb], [], [], rfl, rfl, kn_at hb (Nat.zero_le _), rfl, rfl⟩
  · show ([S, ga, gb]).Nodup
    have h1 : S ≠ ga := fun e => block_ne hS ha (by decide) e
    have h2 : S ≠ gb := fun e => block_ne hS hb (by decide) e
    simp [h1, h2, hn]
set_option maxRecDepth 100000 in
set_option maxHeartbeats 4000000 in
theorem all_two {w : World} {T S ga gb : Nat} (hT : w.heap[T]? = some (.cells #[.slice (some ⟨S, 0, none⟩) 2 2] 61 (0, 0))) (hS : itB w S ga gb) (ha : knB w ga) (hb : knB w gb) (hn : ga ≠ gb) :
    Calls Tryz.prog 29 #[.slice (some ⟨T, 0, none⟩) 1 1] w fun e w' => (∃ (a : L5.AD) (g c : Nat), e = .returned (.tuple #[.slice (some ⟨g, 0, none⟩) 1 c, .int .i64 0]) ∧ PtA a ∧ w'.ownsRow w.heap.size 35 5 (.slice (some ⟨g, 0, none⟩) 1 c) 1 [.int .i64 a.k, .string ⟨a.nm.toArray⟩, .slice a.so a.sp.length a.sc, .slice a.no a.ns.length a.nc, .slice a.po a.D.length a.pc] ∧ AtF w' w.heap.size a) ∧ Below w.heap.size w w' := by
  obtain ⟨y, hy⟩ := all_wr
  obtain ⟨W, hW⟩ : ∃ W, W = w.alloc (.cells #[.slice none 0 0] 106) := ⟨_, rfl⟩
  have XW := hide (show Below w.heap.size w W by rw [hW]; exact al (Below.refl _ _) _)
  have BF := hide (show W.heap[w.heap.size]? = some (.cells #[.slice none 0 0] 106 (0, 0)) by rw [hW]; exact heap_alloc_new w _)
  have BT := hide ((XW.out.block T (lt_of_block hT)).trans hT)
  have XA := hide (show Below W.heap.size W (W.alloc (.cells #[.slice (some ⟨S, 0, none⟩) 2 2] 61)) from al (Below.refl _ _) _)
  have X2 := hide (bt XW.out XA.out (Nat.le_refl _))
  have HSS : Hid (∀ V, Below w.heap.size w V → itB V S ga gb ∧ knB V ga ∧ knB V gb) := fun V x => ⟨(x.block S (lt_of_block hS)).trans hS, (x.block ga (lt_of_block ha)).trans ha, (x.block gb (lt_of_block hb)).trans hb⟩
  have HR : Hid (∀ V, Below w.heap.size w V → Calls Tryz.prog 54 #[.agg #[.slice (some ⟨S, 0, none⟩) 2 2]] V fun e w' => e = .returned (.bool true) ∧ Below V.heap.size V w') := fun V x => right_ok (L := twI) (by decide) (fun x hx => by
    have : x.c = knT := by
      simp [twI] at hx
      rcases hx with rfl | rfl <;> rfl
    rw [this]; exact kn_ok) (tw_at (HSS.out V x).1 (HSS.out V x).2.1 (HSS.out V x).2.2 hn) hy
  clear hT hS ha hb hn hy
  obtain ⟨F, hF⟩ : ∃ F, F = w.heap.size := ⟨_, rfl⟩
  have HFE := hide hF
  go_enter Tryz.func29, Tryz.ntmps29
  go_upto_region 4 with fail
  rw [← hW, ← hF]
  rw [← hF] at BF
  clear hW hF
  go_wp2
  go_loopg [6, 12] 2 (fun g x6 x wr => (x = .int .i64 0 ∧ wr = W ∧ 1 < g) ∨ (x = .int .i64 1 ∧ Hid (∃ a g1 c1, FdA wr F w.heap.size a g1 c1 ∧ PtA a) ∧ Hid (Below w.heap.size w wr) ∧ 0 < g))
  case atStart => exact .inl ⟨rfl, rfl, by omega⟩
  case round =>
    obtain ⟨rfl, hw, hg⟩ | ⟨rfl, HF, HX, hg⟩ := hrel
    · have hw2 := hw.symm
      clear hw
      subst hw2
      have HG := hide hg
      clear hg
      have t0 : W.cell? ⟨T, 0, none⟩ = some (.slice (some ⟨S, 0, none⟩) 2 2) := by rw [cell_of_row _ _ _ _ _ _ BT.out]; rfl
      have BQ := hide (heap_alloc_new W (.cells #[.slice (some ⟨S, 0, none⟩) 2 2] 61))
      have BF2 := hide ((XA.out.block F (lt_of_block BF.out)).trans BF.out)
      have HRR := hide (HR.out _ X2.out)
      obtain ⟨Q, hQ⟩ : ∃ Q, Q = W.heap.size := ⟨_, rfl⟩
      go_upto_region 7 with fail
      rw [← hQ]
      rw [← hQ] at BQ
      clear hQ t0 BF BT XW HR
      generalize W.alloc (.cells #[.slice (some ⟨S, 0, none⟩) 2 2] 61) = W2 at *
      have q0 : W2.cell? ⟨Q, 0, none⟩ = some (.slice (some ⟨S, 0, none⟩) 2 2) := by rw [cell_of_row _ _ _ _ _ _ BQ.out]; rfl
      go_wp2_with (fail)
      refine HRR.out.mono ?_
      rintro e w3 ⟨rfl, x3⟩
      have X3 := hide (bt X2.out x3 (Nat.le_refl _))
      have BQ3 := hide ((x3.block Q (lt_of_block BQ.out)).trans BQ.out)
      have BF3 := hide ((x3.block F (lt_of_block BF2.out)).trans BF2.out)
      have HPP := hide (policy_two BF3.out (HSS.out _ X3.out).1 (HSS.out _ X3.out).2.1 (HSS.out _ X3.out).2.2)
      clear x3 q0 BQ BF2 HRR X2
      have q0 : w3.cell? ⟨Q, 0, none⟩ = some (.slice (some ⟨S, 0, none⟩) 2 2) := by rw [cell_of_row _ _ _ _ _ _ BQ3.out]; rfl
      go_wp2_with (fail)
      refine HPP.out.mono ?_
      rintro e w4 ⟨rfl, ⟨a, g1, c1, hfd, hpa⟩, k4⟩
      have H4 := hide (⟨a, g1, c1, hfd.mono X3.out.size, hpa⟩ : ∃ a g1 c1, FdA w4 F w.heap.size a g1 c1 ∧ PtA a)
      have X4 : Hid (Below w.heap.size w w4) := Kept.low X3.out k4 (fun k hk => by have hk : k = F := hk; have := HFE.out; omega)
      clear hfd hpa k4 q0 HPP BQ3 BF3 X3
      go_wp2
      go_roundg 1
      case measure => have := HG.out; omega
      case rel => exact .inr ⟨by first | rfl | go_num, H4, X4, by omega⟩
    · obtain ⟨a, g1, c1, hfd, hpa⟩ := HF.out
      have f0 : wr.cell? ⟨F, 0, none⟩ = some (.slice (some ⟨g1, 0, none⟩) 1 c1) := by rw [cell_of_row _ _ _ _ _ _ hfd.fb]; rfl
      have HFD := hide hfd
      have HPA := hide hpa
      clear hfd hpa HF
      go_wp2
      go_ret2
      exact ⟨⟨a, g1, c1, rfl, HPA.out, HFD.out.row, HFD.out.at_⟩, HX.out⟩
end Go.Proofs.YthgikaklcglpiaaGreatDoor.L9
/-
  known, by its contract. No condition.
-/
namespace Go.Proofs.YthgikaklcglpiaaGreatDoor.L9
open Go.RowKit Go.Lib

theorem results_cell {fn : Func} {p : Tmp} {ty : TypeId} (h : fn.results = #[.cell p ty]) (tmps : Array Value) (P : Program) (w : World) :
    (results fn tmps).run P w = ((asAddr (tmps.getD p undef)).run P w).andThen fun a w₁ => (loadVar ty a).run P w₁ := by
  simp only [results, h]
  simp [Sem.run_bind, Result.andThen]
set_option maxRecDepth 100000 in
set_option maxHeartbeats 4000000 in
theorem known_any (w : World) : Calls Tryz.prog 35 #[] w fun e w' => (∃ g, e = .returned (.agg #[.int .i64 8, .string ⟨#[]⟩, .string ⟨#[]⟩, .slice none 0 0, .slice (some ⟨g, 0, none⟩) 2 2, .slice none 0 0, .slice none 0 0, .int .i64 0]) ∧ knB w' g ∧ w.heap.size ≤ g) ∧ Below w.heap.size w w' := by
  go_enter Tryz.func35, Tryz.ntmps35
  go_wp2
  refine bodyPost_ret (v := .agg #[.int .i64 8, .string ⟨#[]⟩, .string ⟨#[]⟩, .slice none 0 0, .slice (some ⟨w.heap.size + 1, 0, none⟩) 2 2, .slice none 0 0, .slice none 0 0, .int .i64 0]) ?_ rfl ⟨⟨w.heap.size + 1, rfl, ?_, by omega⟩, al (al (Below.refl _ _) _) _⟩
  · rw [results_cell rfl]
    go_simp
  · have h := heap_alloc_new (w.alloc (.cells #[.int .i64 8, .string ⟨#[]⟩, .string ⟨#[]⟩, .slice none 0 0, .slice (some ⟨w.heap.size + 1, 0, none⟩) 2 2, .slice none 0 0, .slice none 0 0, .int .i64 0] 27)) (.cells #[.int .i64 90, .int .i64 90, .int .i64 80, .int .i64 89] 75)
    rw [show (w.alloc (.cells #[.int .i64 8, .string ⟨#[]⟩, .string ⟨#[]⟩, .slice none 0 0, .slice (some ⟨w.heap.size + 1, 0, none⟩) 2 2, .slice none 0 0, .slice none 0 0, .int .i64 0] 27)).heap.size = w.heap.size + 1 by simp] at h
    exact h
end Go.Proofs.YthgikaklcglpiaaGreatDoor.L9
