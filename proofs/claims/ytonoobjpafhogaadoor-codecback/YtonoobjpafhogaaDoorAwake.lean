/-
  awake, the chapter's examples: it answers true, in whatever world that holds the handle of 'error' in errors.errorType; nothing that was there has turned.
-/
import Derived.Test.YtonoobjpafhogaaDoorRd2
import Derived.Test.YtonoobjpafhogaaDoorSums
namespace Go.Proofs.YtonoobjpafhogaaDoor
open Go.RowKit

theorem newWriter_at (n : Int) (hn : n ≤ 9223372036854775807) (w : World) :
    Calls Tryd.prog 13 #[.int .i64 n] w fun e w' => e = .returned (.pointer (some ⟨w.heap.size, 0, none⟩)) ∧ WAt 73 (fun k => k = w.heap.size) w' w.heap.size (roomOf n) (errOf 0) [] ∧ Below w.heap.size w w' ∧ w'.heap.size = w.heap.size + 1 := by
  refine (newWriter_any n hn w).mono ?_
  rintro e w' ⟨rfl, h, rfl⟩
  exact ⟨rfl, h, (Below.refl _ _).alloc (Nat.le_refl _) _, by simp⟩

/-- What awake holds in the middle of its calls. -/
structure Mid1 (N b1 b2 b3 : Nat) (w wk : World) (E1 : Int) (S1 : List UInt8) (E2 : Int) (R2 : List UInt8) : Prop where
  lo : N ≤ b1 ∧ b1 < b2 ∧ b2 < b3 ∧ b3 < wk.heap.size
  one : WAt 73 (fun k => k = b1 ∨ b3 < k) wk b1 20 (errOf E1) S1
  two : RAt 77 wk b2 R2 (errOf E2)
  three : WAt 73 (fun k => k = b3) wk b3 3 (errOf 0) []
  hg : HG wk
  npos : 0 < N
  below : Below N w wk
theorem Mid1.step1 {N b1 b2 b3 : Nat} {w wk wl : World} {E1 E1' : Int} {S1 S1' : List UInt8} {E2 : Int} {R2 : List UInt8} (h : Mid1 N b1 b2 b3 w wk E1 S1 E2 R2)
    (h1 : WAt 73 (fun k => (k = b1 ∨ b3 < k) ∨ wk.heap.size ≤ k) wl b1 20 (errOf E1') S1') (hk : Kept (fun k => k = b1 ∨ b3 < k) wk wl) : Mid1 N b1 b2 b3 w wl E1' S1' E2 R2 := by
  obtain ⟨l1, l2, l3, l4⟩ := h.lo
  have hb : Below N wk wl := hk.below (by omega) (fun i hi => by omega)
  exact ⟨⟨l1, l2, l3, Nat.lt_of_lt_of_le l4 hk.size⟩, h1.mono (fun k hk _ => by omega), h.two.kept hk (by omega), h.three.kept hk (fun k hk => by omega), h.hg.below hb h.npos, h.npos, h.below.trans hb⟩
theorem Mid1.quiet {N b1 b2 b3 : Nat} {w wk wl : World} {E1 : Int} {S1 : List UInt8} {E2 : Int} {R2 : List UInt8} (h : Mid1 N b1 b2 b3 w wk E1 S1 E2 R2) (hb : Below wk.heap.size wk wl) : Mid1 N b1 b2 b3 w wl E1 S1 E2 R2 := by
  obtain ⟨l1, l2, l3, l4⟩ := h.lo
  have hb' : Below N wk wl := hb.mono (by omega)
  exact ⟨⟨l1, l2, l3, Nat.lt_of_lt_of_le l4 hb.size⟩, h.one.below hb, h.two.below hb, h.three.below hb, h.hg.below hb' h.npos, h.npos, h.below.trans hb'⟩
theorem Mid1.step2 {N b1 b2 b3 : Nat} {w wk wl : World} {E1 : Int} {S1 : List UInt8} {E2 E2' : Int} {R2 R2' : List UInt8} (h : Mid1 N b1 b2 b3 w wk E1 S1 E2 R2)
    (h1 : RAt 77 wl b2 R2' (errOf E2')) (hk : Kept (fun k => k = b2) wk wl) : Mid1 N b1 b2 b3 w wl E1 S1 E2' R2' := by
  obtain ⟨l1, l2, l3, l4⟩ := h.lo
  have hb : Below N wk wl := hk.below (by omega) (fun i hi => by omega)
  exact ⟨⟨l1, l2, l3, Nat.lt_of_lt_of_le l4 hk.size⟩, h.one.kept hk (fun k hk => by omega), h1, h.three.kept hk (fun k hk => by omega), h.hg.below hb h.npos, h.npos, h.below.trans hb⟩

theorem c1 : putP 20 0 [] (numS 2 258) (numC 2 258) = (0, [1, 2]) := by decide +kernel
theorem c2 : putP 20 0 [1, 2] (textS (⟨#[104, 105]⟩ : ByteArray).data.toList) (textC (⟨#[104, 105]⟩ : ByteArray).data.toList) = (0, [1, 2, 0, 2, 104, 105]) := by decide +kernel
theorem c3 : putP 20 0 [1, 2, 0, 2, 104, 105] (numS 1 7) (numC 1 7) = (0, [1, 2, 0, 2, 104, 105, 7]) := by decide +kernel
theorem c4 : putP 20 0 [1, 2, 0, 2, 104, 105, 7] (⟨#[122]⟩ : ByteArray).data.toList 0 = (0, [1, 2, 0, 2, 104, 105, 7, 122]) := by decide +kernel
theorem c5 : rText 0 [0, 2, 97, 98, 99] 2 = ([97, 98], 0, [99]) := by decide +kernel
theorem c6 : putP 3 0 [] (numS 2 1) (numC 2 1) = (0, [0, 1]) := by decide +kernel
theorem c7 : putP 3 0 [0, 1] (numS 2 1) (numC 2 1) = (11, []) := by decide +kernel
theorem c8 : Crc.sum (nats ⟨#[49, 50, 51, 52, 53, 54, 55, 56, 57]⟩) = 3421780262 := by decide +kernel
theorem c10 : (str (doneS 0 [1, 2, 0, 2, 104, 105, 7, 122])).toList = [1, 2, 0, 2, 104, 105, 7, 122] := by decide +kernel
theorem c11 : (str [97, 98]).toList = [97, 98] := by decide +kernel
theorem c9 : Crc.sum (nats ⟨#[]⟩) = 0 := by decide +kernel

set_option maxRecDepth 100000 in
set_option maxHeartbeats 4000000 in
theorem awake_any (w : World) (hg : HG w) :
    Calls Tryd.prog 9 #[] w fun e w' => e = .returned (.bool true) ∧ Below w.heap.size w w' := by
  have hpos := hg.pos
  have HGG := hide hg
  clear hg
  go_enter Tryd.func9, Tryd.ntmps9
  go_wp2_with fail
  refine (newWriter_at 20 (by decide) _).mono ?_
  rintro e w1 ⟨rfl, x1, y1, z1⟩
  generalize hN : w.heap.size = N at x1 y1 z1 hpos ⊢
  have X1 := hide x1; have Y1 := hide y1; have Z1 := hide z1; have HN := hide hN
  clear x1 y1 z1 hN
  go_wp2_with fail
  refine (newReader_any _ _).mono ?_
  rintro e w2 ⟨rfl, x2, y2, z2⟩
  generalize hN2 : w1.heap.size = N2 at x2 y2 z2 ⊢
  have X2 := hide x2; have Y2 := hide y2; have Z2 := hide z2; have HN2 := hide hN2
  clear x2 y2 z2 hN2
  go_wp2_with fail
  refine (newWriter_at 3 (by decide) _).mono ?_
  rintro e w3 ⟨rfl, x3, y3, z3⟩
  generalize hN3 : w2.heap.size = N3 at x3 y3 z3 ⊢
  have M : Hid (Mid1 N N N2 N3 w w3 0 [] 0 [0, 2, 97, 98, 99]) := by
    have e1 := HN.out; have e2 := HN2.out; have z1 := Z1.out; have z2 := Z2.out
    subst hN3
    have b1 : Below N w w1 := Y1.out
    have b2 : Below N2 w1 w2 := Y2.out
    have b2' : Below w1.heap.size w1 w2 := by rw [e2]; exact b2
    refine ⟨⟨Nat.le_refl _, by omega, by omega, by omega⟩, ?_, ?_, x3, ?_, hpos, ?_⟩
    · exact ((X1.out.below b2').below y3).mono (fun k hk _ => .inl hk)
    · exact X2.out.below y3
    · exact ((HGG.out.below b1 hpos).below b2' (by omega)).below y3 (by omega)
    · exact b1.trans ((b2.mono (by omega)).trans (y3.mono (by omega)))
  clear x3 y3 z3 hN3 X1 Y1 Z1 X2 Y2 Z2 HN2 HGG
  go_wp2_with fail
  refine (wNum_any _ _ _ 20 0 [] 2 258 (by decide) (by decide) (by decide) M.out.one).mono ?_
  rintro e w4 ⟨rfl, h4, k4⟩
  rw [c1] at h4
  replace M := hide (M.out.step1 h4 k4)
  clear h4 k4
  go_wp2_with fail
  refine (wText_any _ _ _ 20 0 [1, 2] _ (by decide) (by decide) M.out.one).mono ?_
  rintro e w5 ⟨rfl, h5, k5⟩
  rw [c2] at h5
  replace M := hide (M.out.step1 h5 k5)
  clear h5 k5
  go_wp2_with fail
  refine (wNum_any _ _ _ 20 0 [1, 2, 0, 2, 104, 105] 1 7 (by decide) (by decide) (by decide) M.out.one).mono ?_
  rintro e w6 ⟨rfl, h6, k6⟩
  rw [c3] at h6
  replace M := hide (M.out.step1 h6 k6)
  clear h6 k6
  go_wp2_with fail
  refine (wRaw_any _ _ _ 20 0 [1, 2, 0, 2, 104, 105, 7] _ (by decide) (by decide) M.out.one).mono ?_
  rintro e w7 ⟨rfl, h7, k7⟩
  rw [c4] at h7
  replace M := hide (M.out.step1 h7 k7)
  clear h7 k7
  go_wp2_with fail
  refine (wDone_any _ _ _ 20 0 [1, 2, 0, 2, 104, 105, 7, 122] M.out.hg M.out.one).mono ?_
  rintro e w8 ⟨rfl, h8⟩
  replace M := hide (M.out.quiet h8)
  clear h8
  go_wp2_with fail
  refine (rText_any _ _ 0 [0, 2, 97, 98, 99] 2 (by decide) M.out.two).mono ?_
  rintro e w9 ⟨rfl, h9, k9⟩
  rw [c5] at h9 ⊢
  replace M := hide (M.out.step2 h9 k9)
  clear h9 k9
  go_wp2_with fail
  refine (rLeft_any _ _ _ [99] M.out.two).mono ?_
  rintro e w10 ⟨rfl, h10⟩
  subst h10
  go_wp2_with fail
  refine (rDone_any _ _ 0 [99] M.out.hg M.out.two).mono ?_
  rintro e w11 ⟨rfl, h11⟩
  replace M := hide (M.out.quiet h11)
  clear h11
  go_wp2_with fail
  refine (wNum_any (fun k => N3 ≤ k) _ _ 3 0 [] 2 1 (by decide) (by decide) (by decide) (M.out.three.mono (fun k hk _ => Nat.le_of_eq hk.symm))).mono ?_
  rintro e w12 ⟨rfl, h12, k12⟩
  rw [c6] at h12
  have M3 : Hid (WAt 73 (fun k => N3 ≤ k) w12 N3 3 (errOf 0) [0, 1] ∧ Below N w w12 ∧ HG w12 ∧ N ≤ N3 ∧ N3 ≤ w12.heap.size) := by
    obtain ⟨l1, l2, l3, l4⟩ := M.out.lo
    have hb := k12.below (B := N) (by omega) (fun i hi => by omega)
    exact ⟨h12.mono (fun k hk _ => by omega), M.out.below.trans hb, M.out.hg.below hb M.out.npos, by omega, Nat.le_trans (Nat.le_of_lt l4) k12.size⟩
  clear h12 k12 M
  go_wp2_with fail
  refine (wNum_any (fun k => N3 ≤ k) _ _ 3 0 [0, 1] 2 1 (by decide) (by decide) (by decide) M3.out.1).mono ?_
  rintro e w13 ⟨rfl, h13, k13⟩
  rw [c7] at h13
  have M4 : Hid (WAt 73 (fun k => N3 ≤ k) w13 N3 3 (errOf 11) [] ∧ Below N w w13 ∧ HG w13 ∧ N ≤ w13.heap.size) := by
    obtain ⟨m1, m2, m3, m4, m5⟩ := M3.out
    have hb := k13.below (B := N) (by omega) (fun i hi => by omega)
    exact ⟨h13.mono (fun k hk _ => by omega), m2.trans hb, m3.below hb hpos, Nat.le_trans (Nat.le_trans m4 m5) k13.size⟩
  clear h13 k13 M3
  go_wp2_with fail
  refine (wDone_any _ _ _ 3 11 [] M4.out.2.2.1 M4.out.1).mono ?_
  rintro e w14 ⟨rfl, h14⟩
  have M5 : Hid (Below w.heap.size w w14) := by
    rw [HN.out]
    exact M4.out.2.1.trans (h14.mono M4.out.2.2.2)
  clear h14 M4
  go_wp2_with fail
  refine (sum_any _ (by decide) _).mono ?_
  rintro e w15 ⟨rfl, h15⟩
  subst h15
  rw [c8]
  go_wp2_with fail
  refine (sum_any _ (by decide) _).mono ?_
  rintro e w16 ⟨rfl, h16⟩
  subst h16
  rw [c9]
  have q1 := c10
  have q2 := c11
  have q3 : rDone 0 [99] = 13 := rfl
  go_wp2
  go_ret
  exact ⟨rfl, M5.out⟩
end Go.Proofs.YtonoobjpafhogaaDoor
