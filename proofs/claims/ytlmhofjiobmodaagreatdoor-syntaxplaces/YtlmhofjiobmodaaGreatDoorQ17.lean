/-
  The reader's row by its contract: conditions with a word between. Condition: its parts are read so.
-/
import Derived.Test.YtlmhofjiobmodaaGreatDoorQ16
namespace Go.Proofs.YtlmhofjiobmodaaGreatDoor
open Go.RowKit Go.Lib

mutual
theorem Nrw.mono {n m : Nat} (h : n ≤ m) : ∀ (c : CT), Nrw n c → Nrw m c
  | .mk k nm tx pre sp ns kids p, hc => by
    unfold Nrw at hc ⊢
    exact ⟨Nat.le_trans hc.1 h, nrwL_mono h kids hc.2⟩
theorem nrwL_mono {n m : Nat} (h : n ≤ m) : ∀ (l : List CT), Nrw.nrwL n l → Nrw.nrwL m l
  | [], _ => trivial
  | c :: l, hl => ⟨Nrw.mono h c hl.1, nrwL_mono h l hl.2⟩
end
theorem Tryz.info60n : (Tryz.prog.info? 60).map (fun i => (i.zero, i.size, i.bytes)) = some (some (.agg #[.int .i64 0, .string ⟨#[]⟩, .string ⟨#[]⟩, .slice none 0 0, .slice none 0 0, .slice none 0 0, .slice none 0 0, .int .i64 0]), 8, 144) := by kernel_rfl
theorem RowA.lo {w : World} {base P : Nat} {kind p : Int} {ks : List CT} {v6 : Value} {cs : List Value} {bs : List Nat} (h : RowA w base P kind p ks v6 cs bs) : ∀ k ∈ P :: (bk v6 ++ bs), k < w.heap.size := by
  intro k hk
  rcases List.mem_cons.1 hk with e | hk
  · rw [e]; exact lt_of_block h.blk
  · rcases List.mem_append.1 hk with hk | hk
    · exact (World.ownsRow.lt h.row k (mem_blk.1 hk)).2
    · exact (KidsAt.lt h.kids k hk).2
theorem RowA.v6 {w : World} {base P : Nat} {kind p : Int} {ks : List CT} {v6 : Value} {cs : List Value} {bs : List Nat} (h : RowA w base P kind p ks v6 cs bs) : ∃ a6 c6, v6 = .slice a6 ks.length c6 := by
  obtain ⟨a, c, e, _⟩ := own_shape h.row
  exact ⟨a, c, e⟩
/-- The first part of a row. -/
theorem RowA.one {w w' : World} {base b1 P G : Nat} {kind p : Int} {c : CT} {a0 a1 a2 a3 a4 a5 a6 a7 : Value} {bs : List Nat} (hc : CtAt w b1 c [a0, a1, a2, a3, a4, a5, a6, a7] bs) (hn : bs.Nodup) (hb : base ≤ b1) (x : Below w.heap.size w w') (hG : w.heap.size ≤ G) (hP : G < P) (h0 : base ≤ w.heap.size)
    (hg : w'.heap[G]? = some (.cells #[a0, a1, a2, a3, a4, a5, a6, a7] 60 (0, 0))) (hp : w'.heap[P]? = some (.cells #[.int .i64 kind, .string ⟨#[]⟩, .string ⟨#[]⟩, .slice none 0 0, .slice none 0 0, .slice none 0 0, .slice (some ⟨G, 0, none⟩) 1 1, .int .i64 p] 60 (0, 0))) :
    RowA w' base P kind p [c] (.slice (some ⟨G, 0, none⟩) 1 1) [a0, a1, a2, a3, a4, a5, a6, a7] bs := by
  have hl := CtAt.lt hc
  refine ⟨hp, ⟨rfl, .inr ⟨G, 1, _, rfl, by omega, hg, Nat.le_refl _, by unfold maxLen; omega, rfl, rfl⟩⟩, ⟨_, bs, [], [], by simp, by simp, CtAt.mono hb _ _ _ (hc.below x), rfl, rfl⟩, by omega, ?_⟩
  show (P :: ([G] ++ bs)).Nodup
  refine List.nodup_cons.2 ⟨fun hm => ?_, List.nodup_cons.2 ⟨fun hm => ?_, hn⟩⟩
  · rcases List.mem_cons.1 hm with e | hm
    · omega
    · have := (hl P hm).2
      omega
  · have := (hl G hm).2
    omega
set_option maxRecDepth 100000 in
set_option maxHeartbeats 8000000 in
theorem row_any {rbase rp g cap : Nat} {Ts : List Tk} {f i : Nat} {w : World} (word : By) (kind : Int) (pl : Nat) (hpl : pl ≤ 3) (hf : 4 * (Ts.length - i) + (3 - pl) + 2 ≤ f) (IH : ∀ (l : Nat) (V : World), l ≤ Ts.length → 4 * (Ts.length - l) + (3 - pl) + 2 ≤ f → RdA V rbase rp g cap Ts l → Calls Tryz.prog 77 #[.pointer (some ⟨rp, 0, none⟩), .int .i64 (pl : Nat)] V (PostC rbase rp g cap Ts V (condP Ts f pl l))) (hR : RdA w rbase rp g cap Ts i) :
    Calls Tryz.prog 119 #[.pointer (some ⟨rp, 0, none⟩), .agg #[.string ⟨word.toArray⟩, .int .i64 kind, .int .i64 (pl : Nat)]] w (PostC rbase rp g cap Ts w ((condP Ts f pl i).bind fun c j => if isT Ts 1 word j = true then rowP Ts (condP Ts f pl) word kind f [c] c.p j else .ok c j)) := by
  obtain ⟨x, hx⟩ : ∃ x, x = (condP Ts f pl i).bind fun c j => if isT Ts 1 word j = true then rowP Ts (condP Ts f pl) word kind f [c] c.p j else .ok c j := ⟨_, rfl⟩
  rw [← hx]
  have HX := hide hx
  have HF := hide hf
  have HIH := hide IH
  have HPL := hide hpl
  obtain ⟨B, hB⟩ : ∃ B, B = w.heap.size := ⟨_, rfl⟩
  obtain ⟨Q, hQ⟩ : ∃ Q, Q = w.heap.size + 1 := ⟨_, rfl⟩
  obtain ⟨W, hW⟩ : ∃ W, W = (w.alloc (.cells #[.string ⟨word.toArray⟩, .int .i64 kind, .int .i64 (pl : Nat)] 151)).alloc (.cells #[.int .i64 0, .string ⟨#[]⟩, .string ⟨#[]⟩, .slice none 0 0, .slice none 0 0, .slice none 0 0, .slice none 0 0, .int .i64 0] 60) := ⟨_, rfl⟩
  have X0 := hide (show Below w.heap.size w W by rw [hW]; exact al (al (Below.refl _ _) _) _)
  have B0 := hide (show W.heap[B]? = some (.cells #[.string ⟨word.toArray⟩, .int .i64 kind, .int .i64 (pl : Nat)] 151 (0, 0)) by
    rw [hW, hB]
    exact (heap_alloc_old _ _ (by simp)).trans (heap_alloc_new w _))
  have Q0 := hide (show W.heap[Q]? = some (.cells #[.int .i64 0, .string ⟨#[]⟩, .string ⟨#[]⟩, .slice none 0 0, .slice none 0 0, .slice none 0 0, .slice none 0 0, .int .i64 0] 60 (0, 0)) by
    rw [hW, hQ, show w.heap.size + 1 = (w.alloc (.cells #[.string ⟨word.toArray⟩, .int .i64 kind, .int .i64 (pl : Nat)] 151)).heap.size by simp]
    exact heap_alloc_new _ _)
  have R0 := hide (hR.below X0.out)
  have HSZ : Hid (B = w.heap.size ∧ Q = w.heap.size + 1 ∧ W.heap.size = w.heap.size + 2) := ⟨hB, hQ, by rw [hW]; simp⟩
  have HGL : Hid (rp < B ∧ g < B) := by have := hR.gl; unfold Hid; omega
  have HLT := hide hR.lt
  have HFEW := hide hR.few
  have HI := hide (HIH.out i W (Nat.le_of_lt HLT.out) HF.out R0.out)
  have g2 : W.cell? ⟨B, 2, none⟩ = some (.int .i64 (pl : Nat)) := by rw [cell_of_row _ _ _ _ _ _ B0.out]; rfl
  clear hx hf IH hR hpl
  go_enter Tryz.func119, Tryz.ntmps119
  go_upto_region 1 with fail
  rw [← hQ, ← hW, ← hB]
  clear hQ hW hB
  have nB : B ≠ rp := by have := HGL.out; omega
  have nQ : Q ≠ rp := by have := HGL.out; have := HSZ.out; omega
  go_wp2_with (fail)
  refine HI.out.mono ?_
  intro e w2 hp
  cases hxa : condP Ts f pl i with
  | out => rw [hxa] at hp; exact absurd hp (fun h => h)
  | bad e0 p =>
    rw [hxa] at hp HX
    obtain ⟨he, k3⟩ := hp
    unfold pan at he
    subst he
    exact ⟨rfl, PostC.badI HX.out rfl ((Kept.of_below X0.out).trans k3)⟩
  | ok c j =>
    have HGC := hide (condP_good f pl i c j HPL.out (Nat.le_of_lt HLT.out) HF.out hxa)
    have HIJ := hide ((condP_fwd f pl i HPL.out (Nat.le_of_lt HLT.out) HF.out).lt hxa)
    rw [hxa] at hp HX
    obtain ⟨⟨vs, bs, rfl, hct, hnd⟩, r3, k3⟩ := hp
    obtain ⟨a3, c3, a4, c4, a5, c5, a6, c6, rfl⟩ := hct.eight
    have C2 := hide hct
    have HND := hide hnd
    have R2 := hide r3
    have B2 := hide ((k3.block B (lt_of_block B0.out) nB).trans B0.out)
    have Q2 := hide ((k3.block Q (lt_of_block Q0.out) nQ).trans Q0.out)
    have K2 := hide ((Kept.of_below (F := fun k => k = rp) X0.out).trans k3)
    have HX2 : Hid (x = if isT Ts 1 word j = true then rowP Ts (condP Ts f pl) word kind f [c] c.p j else .ok c j) := HX.out
    have HS2 : Hid (W.heap.size ≤ w2.heap.size) := k3.size
    clear hxa hct hnd r3 k3 HX HI R0 B0 Q0 X0 g2
    have X3 : Hid (Below w2.heap.size w2 (w2.alloc (.cells #[.int .i64 c.k, .string ⟨c.nm.toArray⟩, .string ⟨c.tx.toArray⟩, .slice a3 c.pre.length c3, .slice a4 c.sp.length c4, .slice a5 c.ns.length c5, .slice a6 c.kids.length c6, .int .i64 c.p] 60))) := al (Below.refl _ _) _
    have P3 := hide (heap_alloc_new w2 (.cells #[.int .i64 c.k, .string ⟨c.nm.toArray⟩, .string ⟨c.tx.toArray⟩, .slice a3 c.pre.length c3, .slice a4 c.sp.length c4, .slice a5 c.ns.length c5, .slice a6 c.kids.length c6, .int .i64 c.p] 60))
    go_upto_region 2 with fail
    obtain ⟨P, hP⟩ : ∃ P, P = w2.heap.size := ⟨_, rfl⟩
    rw [← hP] at P3
    have HPP : Hid (W.heap.size ≤ P) := by have := HS2.out; unfold Hid; omega
    have R3 := hide (R2.out.below X3.out)
    have B3 := hide ((X3.out.block B (lt_of_block B2.out)).trans B2.out)
    have Q3 := hide ((X3.out.block Q (lt_of_block Q2.out)).trans Q2.out)
    have C3 := hide (C2.out.below X3.out)
    have K3 := hide (K2.out.trans (Kept.of_below X3.out))
    generalize w2.alloc (.cells #[.int .i64 c.k, .string ⟨c.nm.toArray⟩, .string ⟨c.tx.toArray⟩, .slice a3 c.pre.length c3, .slice a4 c.sp.length c4, .slice a5 c.ns.length c5, .slice a6 c.kids.length c6, .int .i64 c.p] 60) = w3 at *
    rw [← hP]
    clear hP C2 R2 B2 Q2 X3 K2
    have g0 : w3.cell? ⟨B, 0, none⟩ = some (.string ⟨word.toArray⟩) := by rw [cell_of_row _ _ _ _ _ _ B3.out]; rfl
    have HW := hide (isWord_any' R3.out word)
    by_cases hw : isT Ts 1 word j = true
    · have HX3 : Hid (x = rowP Ts (condP Ts f pl) word kind f [c] c.p j) := by unfold Hid; rw [HX2.out, if_pos hw]
      rw [hw] at HW
      clear hw HX2
      go_upto_region 4 with (go_at_call 72; refine HW.out.mono ?_; rintro e w4 ⟨rfl, x4⟩; have X4 := hide x4; clear x4)
      have R4 := hide (R3.out.below X4.out)
      have P4 := hide ((X4.out.block P (lt_of_block P3.out)).trans P3.out)
      have B4 := hide ((X4.out.block B (lt_of_block B3.out)).trans B3.out)
      have Q4 := hide ((X4.out.block Q (lt_of_block Q3.out)).trans Q3.out)
      have C4 := hide (C3.out.below X4.out)
      have K4 := hide (K3.out.trans (Kept.of_below X4.out))
      have HS4 : Hid (W.heap.size ≤ w4.heap.size) := by have := X4.out.size; have := lt_of_block P3.out; have := HPP.out; unfold Hid; omega
      clear g0 HW X4 R3 P3 B3 Q3 C3 K3
      obtain ⟨q0, q1, q2, q3, q4, q5, q6, q7⟩ := ld8 P4.out
      have g1 : w4.cell? ⟨B, 1, none⟩ = some (.int .i64 kind) := by rw [cell_of_row _ _ _ _ _ _ B4.out]; rfl
      obtain ⟨G, hG⟩ : ∃ G, G = w4.heap.size := ⟨_, rfl⟩
      obtain ⟨P6, hP6⟩ : ∃ P6, P6 = w4.heap.size + 1 := ⟨_, rfl⟩
      obtain ⟨w5, hw5⟩ : ∃ w5, w5 = ((w4.alloc (.cells #[.int .i64 c.k, .string ⟨c.nm.toArray⟩, .string ⟨c.tx.toArray⟩, .slice a3 c.pre.length c3, .slice a4 c.sp.length c4, .slice a5 c.ns.length c5, .slice a6 c.kids.length c6, .int .i64 c.p] 60)).alloc (.cells #[.int .i64 kind, .string ⟨#[]⟩, .string ⟨#[]⟩, .slice none 0 0, .slice none 0 0, .slice none 0 0, .slice (some ⟨w4.heap.size, 0, none⟩) 1 1, .int .i64 c.p] 60)) := ⟨_, rfl⟩
      have X5 := hide (show Below w4.heap.size w4 w5 by rw [hw5]; exact al (al (Below.refl _ _) _) _)
      have G5 := hide (show w5.heap[G]? = some (.cells #[.int .i64 c.k, .string ⟨c.nm.toArray⟩, .string ⟨c.tx.toArray⟩, .slice a3 c.pre.length c3, .slice a4 c.sp.length c4, .slice a5 c.ns.length c5, .slice a6 c.kids.length c6, .int .i64 c.p] 60 (0, 0)) by
        rw [hw5, hG]
        exact (heap_alloc_old _ _ (by simp)).trans (heap_alloc_new w4 _))
      have P5 := hide (show w5.heap[P6]? = some (.cells #[.int .i64 kind, .string ⟨#[]⟩, .string ⟨#[]⟩, .slice none 0 0, .slice none 0 0, .slice none 0 0, .slice (some ⟨w4.heap.size, 0, none⟩) 1 1, .int .i64 c.p] 60 (0, 0)) by
        rw [hw5, hP6, show w4.heap.size + 1 = (w4.alloc (.cells #[.int .i64 c.k, .string ⟨c.nm.toArray⟩, .string ⟨c.tx.toArray⟩, .slice a3 c.pre.length c3, .slice a4 c.sp.length c4, .slice a5 c.ns.length c5, .slice a6 c.kids.length c6, .int .i64 c.p] 60)).heap.size by simp]
        exact heap_alloc_new _ _)
      rw [← hG] at P5
      have RW : Hid (RowA w5 W.heap.size P6 kind c.p [c] (.slice (some ⟨G, 0, none⟩) 1 1) _ bs) := RowA.one C4.out HND.out (Nat.le_refl _) X5.out (by omega) (by omega) HS4.out G5.out P5.out
      have g7 : (w4.alloc (.cells #[.int .i64 c.k, .string ⟨c.nm.toArray⟩, .string ⟨c.tx.toArray⟩, .slice a3 c.pre.length c3, .slice a4 c.sp.length c4, .slice a5 c.ns.length c5, .slice a6 c.kids.length c6, .int .i64 c.p] 60)).cell? ⟨P, 7, none⟩ = some (.int .i64 c.p) := by
        have h := (heap_alloc_old w4 (.cells #[.int .i64 c.k, .string ⟨c.nm.toArray⟩, .string ⟨c.tx.toArray⟩, .slice a3 c.pre.length c3, .slice a4 c.sp.length c4, .slice a5 c.ns.length c5, .slice a6 c.kids.length c6, .int .i64 c.p] 60) (lt_of_block P4.out)).trans P4.out
        rw [cell_of_row _ _ _ _ _ _ h]
        rfl
      go_upto_block 0 with fail
      rw [← hP6, ← hw5]
      have R5 := hide (R4.out.below X5.out)
      have B5 := hide ((X5.out.block B (lt_of_block B4.out)).trans B4.out)
      have Q5 := hide ((X5.out.block Q (lt_of_block Q4.out)).trans Q4.out)
      have K5 := hide (K4.out.trans (Kept.of_below X5.out))
      have HP6 : Hid (W.heap.size ≤ P6) := by have := HS4.out; unfold Hid; omega
      clear hP6 hG hw5 g7 q0 q1 q2 q3 q4 q5 q6 q7 g1 R4 P4 B4 Q4 C4 K4 G5 P5 X5 HND HPP HS2
      have HGD : Hid (∀ k ∈ [c], Gd Ts.length k) := fun k hk => by rw [List.mem_singleton.1 hk]; exact HGC.out
      generalize c.p = cp at *
      go_wp2
      go_loopg [27] (f + 1) (fun gg xx wr => ∃ (ks : List CT) (v6 : Value) (cs : List Value) (bs : List Nat) (j' f' : Nat), xx = xx ∧ Hid (RowA wr W.heap.size P6 kind cp ks v6 cs bs) ∧ Hid (RdA wr rbase rp g cap Ts j') ∧ Hid (Kept (fun k => k = rp) w wr) ∧ Hid (wr.heap[B]? = some (.cells #[.string ⟨word.toArray⟩, .int .i64 kind, .int .i64 (pl : Nat)] 151 (0, 0))) ∧ Hid (wr.heap[Q]? = some (.cells #[.int .i64 0, .string ⟨#[]⟩, .string ⟨#[]⟩, .slice none 0 0, .slice none 0 0, .slice none 0 0, .slice none 0 0, .int .i64 0] 60 (0, 0))) ∧ Hid (x = rowP Ts (condP Ts f pl) word kind f' ks cp j') ∧ Hid (ks.length ≤ j') ∧ Hid (∀ k ∈ ks, Gd Ts.length k) ∧ Hid (Ts.length - j' < f') ∧ Hid (i ≤ j') ∧ f' < gg)
      case atStart =>
        exact ⟨_, _, _, _, j, f, rfl, RW, R5, K5, B5, Q5, HX3, by have := HIJ.out.1; unfold Hid; rw [List.length_singleton]; omega, HGD, by have := HIJ.out; have := HF.out; unfold Hid; omega, by have := HIJ.out.1; unfold Hid; omega, by omega⟩
      case round =>
        clear RW R5 K5 B5 Q5 HX3 HGD HGC HIJ
        obtain ⟨ks, v6, cs, bs, j', f', _, RW, RR, KR, BR, QR, HX, HKL, HGD, HFU, HIJ, hg⟩ := hrel
        have HG := hide hg
        clear hg
        cases f' with
        | zero => exact absurd HFU.out (by omega)
        | succ f' =>
          have HM : Hid (x = if isT Ts 1 word j' = true then
              if ks.length = 32 ∧ begP Ts (j' + 1) = true then .bad 92 (tok Ts (j' + 1)).p
              else (condP Ts f pl (j' + 1)).bind fun c j => rowP Ts (condP Ts f pl) word kind f' (ks ++ [c]) cp j
            else overP (.mk kind [] [] [] [] [] ks cp) j') := HX.out
          clear HX
          obtain ⟨a6, c6, rfl⟩ := RW.out.v6
          have g0 : wr.cell? ⟨B, 0, none⟩ = some (.string ⟨word.toArray⟩) := by rw [cell_of_row _ _ _ _ _ _ BR.out]; rfl
          have HW := hide (isWord_any' RR.out word)
          by_cases hw : isT Ts 1 word j' = true
          · rw [hw] at HW
            have HN : Hid (j' + 1 < Ts.length) := RR.out.next (by rw [isT_kind hw]; decide)
            have HM2 : Hid (x = if ks.length = 32 ∧ begP Ts (j' + 1) = true then .bad 92 (tok Ts (j' + 1)).p
              else (condP Ts f pl (j' + 1)).bind fun c j => rowP Ts (condP Ts f pl) word kind f' (ks ++ [c]) cp j) := by unfold Hid; rw [HM.out, if_pos hw]
            clear HM hw
            go_upto_region 6 with (go_at_call 72; refine HW.out.mono ?_; rintro e w6 ⟨rfl, x6⟩; have X6 := hide x6; clear x6)
            have R1 := hide (RR.out.below X6.out)
            have RW6 := hide (RW.out.below X6.out)
            have B6 := hide ((X6.out.block B (lt_of_block BR.out)).trans BR.out)
            have Q6 := hide ((X6.out.block Q (lt_of_block QR.out)).trans QR.out)
            have K6 := hide (KR.out.trans (Kept.of_below X6.out))
            clear g0 HW X6 RR RW BR QR KR
            obtain ⟨_, c1⟩ := R1.out.two
            have f1 := frozen_of_row w6 rp 1 _ _ R1.out.blk
            have fw : IntKind.i64.wrap ((j' : Int) + 1) = (j' : Int) + 1 := by have := R1.out.few; have := HN.out; simp [IntKind.wrap, IntKind.bits, IntKind.signed]; omega
            go_upto_region 7 with fail
            clear c1 f1 fw
            have R7 := hide (R1.out.step HN.out)
            have KS : Hid (Kept (fun k => k = rp) w6 (w6.setCell ⟨rp, 1, none⟩ (.int .i64 ((j' : Int) + 1)))) := Kept.setCell (F := fun k => k = rp) (p := ⟨rp, 1, none⟩) (Kept.refl _ _) rfl _
            have K7 := hide (K6.out.trans KS.out)
            have hlo : ∀ k, k = rp → k < W.heap.size := by have := HGL.out; have := HSZ.out; intro k hk; omega
            have RW7 := hide (RW6.out.frame KS.out hlo)
            have B7 := hide ((KS.out.block B (lt_of_block B6.out) nB).trans B6.out)
            have Q7 := hide ((KS.out.block Q (lt_of_block Q6.out) nQ).trans Q6.out)
            clear R1 KS K6 RW6 B6 Q6 hlo
            generalize w6.setCell ⟨rp, 1, none⟩ (.int .i64 ((j' : Int) + 1)) = w7 at *
            have g6 : w7.cell? ⟨P6, 6, none⟩ = some (.slice a6 ks.length c6) := by rw [cell_of_row _ _ _ _ _ _ RW7.out.blk]; rfl
            by_cases h32 : ks.length = 32
            · have HBG := hide (begins_any R7.out)
              have h33 : ((ks.length : Int) == 32) = true := by simp; omega
              by_cases hbg : begP Ts (j' + 1) = true
              · rw [hbg] at HBG
                have HRF := hide (fun V (y : Below w7.heap.size w7 V) => refuse_any (R7.out.below y) 92)
                have HM3 : Hid (x = .bad 92 (tok Ts (j' + 1)).p) := by unfold Hid; rw [HM2.out, if_pos ⟨h32, hbg⟩]
                generalize (tok Ts (j' + 1)).p = zp at *
                clear HM2 hbg h32
                go_wp2_with (first
                  | (go_at_call 147; refine HBG.out.mono ?_; rintro e w8 ⟨rfl, x8⟩; have X8 := hide x8; clear x8)
                  | (go_at_call 52; refine (HRF.out _ X8.out).mono ?_; rintro e w9 ⟨he, x9⟩; unfold pan at he; subst he; have X9 := hide (bt X8.out x9 (Nat.le_refl _)); clear x9))
                exact ⟨rfl, PostC.badI HM3.out rfl (K7.out.trans (Kept.of_below X9.out))⟩
              · have hbg' : begP Ts (j' + 1) = false := by simpa using hbg
                rw [hbg'] at HBG
                have HM3 : Hid (x = (condP Ts f pl (j' + 1)).bind fun c j => rowP Ts (condP Ts f pl) word kind f' (ks ++ [c]) cp j) := by unfold Hid; rw [HM2.out, if_neg (fun h => hbg h.2)]
                clear HM2 hbg hbg' h32
                go_upto_region 9 with (go_at_call 147; refine HBG.out.mono ?_; rintro e w8 ⟨rfl, x8⟩; have X8 := hide x8; clear x8)
                clear h33
                have R8 := hide (R7.out.below X8.out)
                have RW8 := hide (RW7.out.below X8.out)
                have B8 := hide ((X8.out.block B (lt_of_block B7.out)).trans B7.out)
                have Q8 := hide ((X8.out.block Q (lt_of_block Q7.out)).trans Q7.out)
                have K8 := hide (K7.out.trans (Kept.of_below X8.out))
                clear R7 RW7 B7 Q7 K7 X8 HBG g6
                refine wp_unt (S := fun V => V.cell? ⟨P6, 6, none⟩ = some (.slice a6 ks.length c6) ∧ V.cell? ⟨B, 2, none⟩ = some (.int .i64 (pl : Nat))) 9 (by kernel_rfl) ?_
                have HS0 : Hid (Below w8.heap.size w8 w8.drew) := (Below.refl _ _).drew
                have RA := hide (R8.out.below HS0.out)
                have RWA := hide (RW8.out.below HS0.out)
                have BA := hide ((HS0.out.block B (lt_of_block B8.out)).trans B8.out)
                have QA := hide ((HS0.out.block Q (lt_of_block Q8.out)).trans Q8.out)
                have KA := hide (K8.out.trans (Kept.of_below HS0.out))
                clear HS0 R8 RW8 B8 Q8 K8
                generalize w8.drew = wA at *
                have SF : Hid (∀ V : World, V.heap[P6]? = wA.heap[P6]? → V.heap[B]? = some (.cells #[.string ⟨word.toArray⟩, .int .i64 kind, .int .i64 (pl : Nat)] 151 (0, 0)) → V.cell? ⟨P6, 6, none⟩ = some (.slice a6 ks.length c6) ∧ V.cell? ⟨B, 2, none⟩ = some (.int .i64 (pl : Nat))) := fun V h1 h2 => by
                  have h1 := h1.trans RWA.out.blk
                  exact ⟨by rw [cell_of_row _ _ _ _ _ _ h1]; rfl, by rw [cell_of_row _ _ _ _ _ _ h2]; rfl⟩
                have SA := hide (SF.out wA rfl BA.out)
                refine UntH.take (i := 0) (some 45) rfl rfl (by kernel_rfl) (by kernel_rfl) (by kernel_rfl) (by kernel_rfl) (fun _ _ _ _ h => h) (by rfl) SA.out ?_
                apply Exists.intro
                refine ⟨fun w' hw' => ?_, ?_⟩
                · obtain ⟨q1, q2⟩ := hw'
                  go_simp
                  first | done | rfl
                try simp only [Act.put, List.setIfInBounds_toArray, List.set_cons_zero, List.set_cons_succ]
                refine UntH.take (i := 1) (some 46) rfl rfl (by kernel_rfl) (by kernel_rfl) (by kernel_rfl) (by kernel_rfl) (fun _ _ _ _ h => h) (by rfl) SA.out ?_
                apply Exists.intro
                refine ⟨fun w' hw' => ?_, ?_⟩
                · obtain ⟨q1, q2⟩ := hw'
                  go_simp
                  first | done | rfl
                try simp only [Act.put, List.setIfInBounds_toArray, List.set_cons_zero, List.set_cons_succ]
                refine UntH.take (i := 2) (some 47) rfl rfl (by kernel_rfl) (by kernel_rfl) (by kernel_rfl) (by kernel_rfl) (fun _ _ _ _ h => h) (by rfl) SA.out ?_
                apply Exists.intro
                refine ⟨fun w' hw' => ?_, ?_⟩
                · obtain ⟨q1, q2⟩ := hw'
                  go_simp
                  first | done | rfl
                try simp only [Act.put, List.setIfInBounds_toArray, List.set_cons_zero, List.set_cons_succ]
                refine UntH.take (i := 3) (some 48) rfl rfl (by kernel_rfl) (by kernel_rfl) (by kernel_rfl) (by kernel_rfl) (fun _ _ _ _ h => h) (by rfl) SA.out ?_
                apply Exists.intro
                refine ⟨fun w' hw' => ?_, ?_⟩
                · obtain ⟨q1, q2⟩ := hw'
                  go_simp
                  first | done | rfl
                try simp only [Act.put, List.setIfInBounds_toArray, List.set_cons_zero, List.set_cons_succ]
                refine UntH.take (i := 4) (some 49) rfl rfl (by kernel_rfl) (by kernel_rfl) (by kernel_rfl) (by kernel_rfl) (fun _ _ _ _ h => h) (by rfl) SA.out ?_
                apply Exists.intro
                refine ⟨fun w' hw' => ?_, ?_⟩
                · obtain ⟨q1, q2⟩ := hw'
                  go_simp
                  first | done | rfl
                try simp only [Act.put, List.setIfInBounds_toArray, List.set_cons_zero, List.set_cons_succ]
                have HI := hide (HIH.out (j' + 1) wA (by have := HN.out; omega) (by have := HF.out; have := HIJ.out; omega) RA.out)
                refine UntH.step (i := 5) (by kernel_rfl) rfl (fun K hK => ?_)
                go_simp
                refine HI.out.mono ?_
                intro e wB hp
                cases hxa : condP Ts f pl (j' + 1) with
                | out => rw [hxa] at hp; exact absurd hp (fun h => h)
                | bad e0 p =>
                  rw [hxa] at hp HM3
                  obtain ⟨he, k3⟩ := hp
                  unfold pan at he
                  subst he
                  exact ⟨rfl, PostC.badI HM3.out rfl (KA.out.trans k3)⟩
                | ok c2 j2 =>
                  have HGC := hide (condP_good f pl (j' + 1) c2 j2 HPL.out (by have := HN.out; omega) (by have := HF.out; have := HIJ.out; omega) hxa)
                  have HJ2 := hide ((condP_fwd f pl (j' + 1) HPL.out (by have := HN.out; omega) (by have := HF.out; have := HIJ.out; omega)).lt hxa)
                  rw [hxa] at hp HM3
                  obtain ⟨⟨vs, cb, rfl, hct, hnd⟩, r3, k3⟩ := hp
                  obtain ⟨d3, e3, d4, e4, d5, e5, d6, e6, rfl⟩ := hct.eight
                  have hlo : ∀ k, k = rp → k < W.heap.size := by have := HGL.out; have := HSZ.out; intro k hk; omega
                  have CB := hide hct
                  have HND := hide hnd
                  have RB := hide r3
                  have RWB := hide (RWA.out.frame k3 hlo)
                  have BB := hide ((k3.block B (lt_of_block BA.out) nB).trans BA.out)
                  have QB := hide ((k3.block Q (lt_of_block QA.out) nQ).trans QA.out)
                  have KB := hide (KA.out.trans k3)
                  have HLO := hide RWA.out.lo
                  have PB := hide (RWB.out.blk.trans RWA.out.blk.symm)
                  have SB := hide (SF.out wB PB.out BB.out)
                  have HM4 : Hid (x = rowP Ts (condP Ts f pl) word kind f' (ks ++ [c2]) cp j2) := HM3.out
                  have HWA : Hid (W.heap.size ≤ wA.heap.size) := by have := RWA.out.bas; have := lt_of_block RWA.out.blk; unfold Hid; omega
                  refine hK _ _ SB.out ?_
                  clear hK K HI hxa hct hnd r3 k3 HM3 hlo RA BA QA KA SA
                  try simp only [Act.put, List.setIfInBounds_toArray, List.set_cons_zero, List.set_cons_succ]
                  have XC : Hid (Below wB.heap.size wB (wB.alloc (.cells #[.int .i64 c2.k, .string ⟨c2.nm.toArray⟩, .string ⟨c2.tx.toArray⟩, .slice d3 c2.pre.length e3, .slice d4 c2.sp.length e4, .slice d5 c2.ns.length e5, .slice d6 c2.kids.length e6, .int .i64 c2.p] 60))) := al (Below.refl _ _) _
                  have RC := hide (RB.out.below XC.out)
                  have RWC := hide (RWB.out.below XC.out)
                  have BC := hide ((XC.out.block B (lt_of_block BB.out)).trans BB.out)
                  have QC := hide ((XC.out.block Q (lt_of_block QB.out)).trans QB.out)
                  have KC := hide (KB.out.trans (Kept.of_below XC.out))
                  have CC := hide (CB.out.below XC.out)
                  have SC := hide (SF.out (wB.alloc (.cells #[.int .i64 c2.k, .string ⟨c2.nm.toArray⟩, .string ⟨c2.tx.toArray⟩, .slice d3 c2.pre.length e3, .slice d4 c2.sp.length e4, .slice d5 c2.ns.length e5, .slice d6 c2.kids.length e6, .int .i64 c2.p] 60)) (RWC.out.blk.trans RWA.out.blk.symm) BC.out)
                  have HNW := hide (World.news_of_block (heap_alloc_new wB (.cells #[.int .i64 c2.k, .string ⟨c2.nm.toArray⟩, .string ⟨c2.tx.toArray⟩, .slice d3 c2.pre.length e3, .slice d4 c2.sp.length e4, .slice d5 c2.ns.length e5, .slice d6 c2.kids.length e6, .int .i64 c2.p] 60)))
                  obtain ⟨ie, hie, hz0, hz1, hz2⟩ := info_parts Tryz.info60n
                  refine UntH.step (i := 6) (by kernel_rfl) rfl (fun K hK => ?_)
                  go_simp
                  refine hK _ _ SC.out ?_
                  clear hK K RB RWB BB QB KB CB SB XC
                  try simp only [Act.put, List.setIfInBounds_toArray, List.set_cons_zero, List.set_cons_succ]
                  refine UntH.step (i := 7) (by kernel_rfl) rfl (fun K hK => ?_)
                  refine step_append_lies _ (by rfl) (.tmp 46) (.tmp 51) 58 (by rfl) W.heap.size 60 ie (.agg #[.int .i64 0, .string ⟨#[]⟩, .string ⟨#[]⟩, .slice none 0 0, .slice none 0 0, .slice none 0 0, .slice none 0 0, .int .i64 0]) 8 144 Tryz.underlying58 hie hz0 hz1 hz2 rfl (by decide) _ ks.length cs (by rfl) RWC.out.row ⟨wB.heap.size, 0, none⟩ 1 1 [.int .i64 c2.k, .string ⟨c2.nm.toArray⟩, .string ⟨c2.tx.toArray⟩, .slice d3 c2.pre.length e3, .slice d4 c2.sp.length e4, .slice d5 c2.ns.length e5, .slice d6 c2.kids.length e6, .int .i64 c2.p] (by rfl) (by rfl) HNW.out (by simp [Value.oneCell']) (by decide) (by have := HKL.out; have := HN.out; have := HFEW.out; unfold maxLen; omega) (by have := HKL.out; have := HN.out; have := HFEW.out; omega) (by have := RWC.out.bas; have := lt_of_block RWC.out.blk; omega) _ rfl ?_
                  intro gD cD wD h1 h2 h3 h4
                  have HPU : Hid (RowA (wD.setCell ⟨P6, 6, none⟩ (.slice (some ⟨gD, 0, none⟩) (ks.length + 1) cD)) W.heap.size P6 kind cp (ks ++ [c2]) (.slice (some ⟨gD, 0, none⟩) (ks.length + 1) cD) _ (bs ++ cb)) := RowA.push RWC.out CC.out HND.out HWA.out HLO.out rfl h2 h1 h3
                  have hkg := kept_of_grown h2
                  have hge : ∀ k, (Value.slice a6 ks.length c6).ownBlock = some k → W.heap.size ≤ k := fun k hk => (World.ownsRow.lt RWC.out.row k hk).1
                  have KG : Hid (Kept (fun k => W.heap.size ≤ k) (wB.alloc (.cells #[.int .i64 c2.k, .string ⟨c2.nm.toArray⟩, .string ⟨c2.tx.toArray⟩, .slice d3 c2.pre.length e3, .slice d4 c2.sp.length e4, .slice d5 c2.ns.length e5, .slice d6 c2.kids.length e6, .int .i64 c2.p] 60)) wD) := hkg.mono hge
                  have PD : Hid (wD.heap[P6]? = wA.heap[P6]?) := (hkg.block P6 (lt_of_block RWC.out.blk) (fun e => (List.nodup_cons.1 RWC.out.nd).1 (List.mem_append.2 (.inl (mem_blk.2 e))))).trans (RWC.out.blk.trans RWA.out.blk.symm)
                  have hl2 : ¬ W.heap.size ≤ B ∧ ¬ W.heap.size ≤ Q ∧ ¬ W.heap.size ≤ rp ∧ ¬ W.heap.size ≤ g := by have := HGL.out; have := HSZ.out; exact ⟨by omega, by omega, by omega, by omega⟩
                  have BD := hide ((KG.out.block B (lt_of_block BC.out) hl2.1).trans BC.out)
                  have QD := hide ((KG.out.block Q (lt_of_block QC.out) hl2.2.1).trans QC.out)
                  have RD := hide (RC.out.kept KG.out hl2.2.2.1 hl2.2.2.2)
                  have KD : Hid (Kept (fun k => k = rp) w wD) := Kept.trans_new KC.out KG.out (fun k h1 h2 => absurd h2 (by have := HSZ.out; omega))
                  have SD := hide (SF.out wD PD.out BD.out)
                  have P6D := hide (PD.out.trans RWA.out.blk)
                  refine hK _ _ SD.out ?_
                  clear hK K h1 h2 h3 h4 hkg hge KG RC RWC BC QC KC CC SC HNW RWA hl2
                  refine UntH.take (i := 8) (some 53) rfl rfl (by kernel_rfl) (by kernel_rfl) (by kernel_rfl) (by kernel_rfl) (fun _ _ _ _ h => h) (by rfl) SD.out ?_
                  apply Exists.intro
                  refine ⟨fun w' hw' => ?_, ?_⟩
                  · obtain ⟨q1, q2⟩ := hw'
                    go_simp
                    first | done | rfl
                  have c7 := SD.out.1
                  have f7 := frozen_of_row wD P6 6 _ _ P6D.out
                  refine UntH.last (by kernel_rfl) rfl (by kernel_rfl) (by kernel_rfl) (fun K hK => ?_)
                  go_simp
                  refine hK _ _ ?_
                  clear hK K c7 f7
                  have K9 : Hid (Kept (fun k => k = P6) wD (wD.setCell ⟨P6, 6, none⟩ (.slice (some ⟨gD, 0, none⟩) (ks.length + 1) cD))) := Kept.setCell (F := fun k => k = P6) (p := ⟨P6, 6, none⟩) (Kept.refl _ _) rfl _
                  have hl2 : B ≠ P6 ∧ Q ≠ P6 ∧ rp ≠ P6 ∧ g ≠ P6 := by have := HGL.out; have := HSZ.out; have := HP6.out; exact ⟨by omega, by omega, by omega, by omega⟩
                  have B9 := hide ((K9.out.block B (lt_of_block BD.out) hl2.1).trans BD.out)
                  have Q9 := hide ((K9.out.block Q (lt_of_block QD.out) hl2.2.1).trans QD.out)
                  have R9 := hide (RD.out.kept K9.out hl2.2.2.1 hl2.2.2.2)
                  have KK9 : Hid (Kept (fun k => k = rp) w (wD.setCell ⟨P6, 6, none⟩ (.slice (some ⟨gD, 0, none⟩) (ks.length + 1) cD))) := Kept.trans_new KD.out K9.out (fun k h1 h2 => absurd h1 (by have := HSZ.out; have := HP6.out; rw [h2]; omega))
                  clear hl2 BD QD RD KD SD P6D PD K9 SF
                  generalize wD.setCell ⟨P6, 6, none⟩ (.slice (some ⟨gD, 0, none⟩) (ks.length + 1) cD) = w9 at *
                  have HGD2 : Hid (∀ k ∈ ks ++ [c2], Gd Ts.length k) := fun k hk => by
                    rcases List.mem_append.1 hk with hk | hk
                    · exact HGD.out k hk
                    · rw [List.mem_singleton.1 hk]; exact HGC.out
                  go_wp2
                  go_roundg (f' + 1)
                  case measure => have := HG.out; omega
                  case rel => exact ⟨_, _, _, _, j2, f', (by first | rfl | trivial), HPU, R9, KK9, B9, Q9, HM4, by have := HKL.out; have := HJ2.out; unfold Hid; rw [List.length_append, List.length_singleton]; omega, HGD2, by have := HFU.out; have := HJ2.out; unfold Hid; omega, by have := HIJ.out; have := HJ2.out; unfold Hid; omega, by omega⟩
            · have h33 : ((ks.length : Int) == 32) = false := by simp; omega
              have HM3 : Hid (x = (condP Ts f pl (j' + 1)).bind fun c j => rowP Ts (condP Ts f pl) word kind f' (ks ++ [c]) cp j) := by unfold Hid; rw [HM2.out, if_neg (fun h => h32 h.1)]
              clear HM2 h32
              go_upto_region 9 with fail
              clear h33 g6
              have R8 := hide R7.out
              have RW8 := hide RW7.out
              have B8 := hide B7.out
              have Q8 := hide Q7.out
              have K8 := hide K7.out
              clear R7 RW7 B7 Q7 K7
              refine wp_unt (S := fun V => V.cell? ⟨P6, 6, none⟩ = some (.slice a6 ks.length c6) ∧ V.cell? ⟨B, 2, none⟩ = some (.int .i64 (pl : Nat))) 9 (by kernel_rfl) ?_
              have HS0 : Hid (Below w7.heap.size w7 w7.drew) := (Below.refl _ _).drew
              have RA := hide (R8.out.below HS0.out)
              have RWA := hide (RW8.out.below HS0.out)
              have BA := hide ((HS0.out.block B (lt_of_block B8.out)).trans B8.out)
              have QA := hide ((HS0.out.block Q (lt_of_block Q8.out)).trans Q8.out)
              have KA := hide (K8.out.trans (Kept.of_below HS0.out))
              clear HS0 R8 RW8 B8 Q8 K8
              generalize w7.drew = wA at *
              have SF : Hid (∀ V : World, V.heap[P6]? = wA.heap[P6]? → V.heap[B]? = some (.cells #[.string ⟨word.toArray⟩, .int .i64 kind, .int .i64 (pl : Nat)] 151 (0, 0)) → V.cell? ⟨P6, 6, none⟩ = some (.slice a6 ks.length c6) ∧ V.cell? ⟨B, 2, none⟩ = some (.int .i64 (pl : Nat))) := fun V h1 h2 => by
                have h1 := h1.trans RWA.out.blk
                exact ⟨by rw [cell_of_row _ _ _ _ _ _ h1]; rfl, by rw [cell_of_row _ _ _ _ _ _ h2]; rfl⟩
              have SA := hide (SF.out wA rfl BA.out)
              refine UntH.take (i := 0) (some 45) rfl rfl (by kernel_rfl) (by kernel_rfl) (by kernel_rfl) (by kernel_rfl) (fun _ _ _ _ h => h) (by rfl) SA.out ?_
              apply Exists.intro
              refine ⟨fun w' hw' => ?_, ?_⟩
              · obtain ⟨q1, q2⟩ := hw'
                go_simp
                first | done | rfl
              try simp only [Act.put, List.setIfInBounds_toArray, List.set_cons_zero, List.set_cons_succ]
              refine UntH.take (i := 1) (some 46) rfl rfl (by kernel_rfl) (by kernel_rfl) (by kernel_rfl) (by kernel_rfl) (fun _ _ _ _ h => h) (by rfl) SA.out ?_
              apply Exists.intro
              refine ⟨fun w' hw' => ?_, ?_⟩
              · obtain ⟨q1, q2⟩ := hw'
                go_simp
                first | done | rfl
              try simp only [Act.put, List.setIfInBounds_toArray, List.set_cons_zero, List.set_cons_succ]
              refine UntH.take (i := 2) (some 47) rfl rfl (by kernel_rfl) (by kernel_rfl) (by kernel_rfl) (by kernel_rfl) (fun _ _ _ _ h => h) (by rfl) SA.out ?_
              apply Exists.intro
              refine ⟨fun w' hw' => ?_, ?_⟩
              · obtain ⟨q1, q2⟩ := hw'
                go_simp
                first | done | rfl
              try simp only [Act.put, List.setIfInBounds_toArray, List.set_cons_zero, List.set_cons_succ]
              refine UntH.take (i := 3) (some 48) rfl rfl (by kernel_rfl) (by kernel_rfl) (by kernel_rfl) (by kernel_rfl) (fun _ _ _ _ h => h) (by rfl) SA.out ?_
              apply Exists.intro
              refine ⟨fun w' hw' => ?_, ?_⟩
              · obtain ⟨q1, q2⟩ := hw'
                go_simp
                first | done | rfl
              try simp only [Act.put, List.setIfInBounds_toArray, List.set_cons_zero, List.set_cons_succ]
              refine UntH.take (i := 4) (some 49) rfl rfl (by kernel_rfl) (by kernel_rfl) (by kernel_rfl) (by kernel_rfl) (fun _ _ _ _ h => h) (by rfl) SA.out ?_
              apply Exists.intro
              refine ⟨fun w' hw' => ?_, ?_⟩
              · obtain ⟨q1, q2⟩ := hw'
                go_simp
                first | done | rfl
              try simp only [Act.put, List.setIfInBounds_toArray, List.set_cons_zero, List.set_cons_succ]
              have HI := hide (HIH.out (j' + 1) wA (by have := HN.out; omega) (by have := HF.out; have := HIJ.out; omega) RA.out)
              refine UntH.step (i := 5) (by kernel_rfl) rfl (fun K hK => ?_)
              go_simp
              refine HI.out.mono ?_
              intro e wB hp
              cases hxa : condP Ts f pl (j' + 1) with
              | out => rw [hxa] at hp; exact absurd hp (fun h => h)
              | bad e0 p =>
                rw [hxa] at hp HM3
                obtain ⟨he, k3⟩ := hp
                unfold pan at he
                subst he
                exact ⟨rfl, PostC.badI HM3.out rfl (KA.out.trans k3)⟩
              | ok c2 j2 =>
                have HGC := hide (condP_good f pl (j' + 1) c2 j2 HPL.out (by have := HN.out; omega) (by have := HF.out; have := HIJ.out; omega) hxa)
                have HJ2 := hide ((condP_fwd f pl (j' + 1) HPL.out (by have := HN.out; omega) (by have := HF.out; have := HIJ.out; omega)).lt hxa)
                rw [hxa] at hp HM3
                obtain ⟨⟨vs, cb, rfl, hct, hnd⟩, r3, k3⟩ := hp
                obtain ⟨d3, e3, d4, e4, d5, e5, d6, e6, rfl⟩ := hct.eight
                have hlo : ∀ k, k = rp → k < W.heap.size := by have := HGL.out; have := HSZ.out; intro k hk; omega
                have CB := hide hct
                have HND := hide hnd
                have RB := hide r3
                have RWB := hide (RWA.out.frame k3 hlo)
                have BB := hide ((k3.block B (lt_of_block BA.out) nB).trans BA.out)
                have QB := hide ((k3.block Q (lt_of_block QA.out) nQ).trans QA.out)
                have KB := hide (KA.out.trans k3)
                have HLO := hide RWA.out.lo
                have PB := hide (RWB.out.blk.trans RWA.out.blk.symm)
                have SB := hide (SF.out wB PB.out BB.out)
                have HM4 : Hid (x = rowP Ts (condP Ts f pl) word kind f' (ks ++ [c2]) cp j2) := HM3.out
                have HWA : Hid (W.heap.size ≤ wA.heap.size) := by have := RWA.out.bas; have := lt_of_block RWA.out.blk; unfold Hid; omega
                refine hK _ _ SB.out ?_
                clear hK K HI hxa hct hnd r3 k3 HM3 hlo RA BA QA KA SA
                try simp only [Act.put, List.setIfInBounds_toArray, List.set_cons_zero, List.set_cons_succ]
                have XC : Hid (Below wB.heap.size wB (wB.alloc (.cells #[.int .i64 c2.k, .string ⟨c2.nm.toArray⟩, .string ⟨c2.tx.toArray⟩, .slice d3 c2.pre.length e3, .slice d4 c2.sp.length e4, .slice d5 c2.ns.length e5, .slice d6 c2.kids.length e6, .int .i64 c2.p] 60))) := al (Below.refl _ _) _
                have RC := hide (RB.out.below XC.out)
                have RWC := hide (RWB.out.below XC.out)
                have BC := hide ((XC.out.block B (lt_of_block BB.out)).trans BB.out)
                have QC := hide ((XC.out.block Q (lt_of_block QB.out)).trans QB.out)
                have KC := hide (KB.out.trans (Kept.of_below XC.out))
                have CC := hide (CB.out.below XC.out)
                have SC := hide (SF.out (wB.alloc (.cells #[.int .i64 c2.k, .string ⟨c2.nm.toArray⟩, .string ⟨c2.tx.toArray⟩, .slice d3 c2.pre.length e3, .slice d4 c2.sp.length e4, .slice d5 c2.ns.length e5, .slice d6 c2.kids.length e6, .int .i64 c2.p] 60)) (RWC.out.blk.trans RWA.out.blk.symm) BC.out)
                have HNW := hide (World.news_of_block (heap_alloc_new wB (.cells #[.int .i64 c2.k, .string ⟨c2.nm.toArray⟩, .string ⟨c2.tx.toArray⟩, .slice d3 c2.pre.length e3, .slice d4 c2.sp.length e4, .slice d5 c2.ns.length e5, .slice d6 c2.kids.length e6, .int .i64 c2.p] 60)))
                obtain ⟨ie, hie, hz0, hz1, hz2⟩ := info_parts Tryz.info60n
                refine UntH.step (i := 6) (by kernel_rfl) rfl (fun K hK => ?_)
                go_simp
                refine hK _ _ SC.out ?_
                clear hK K RB RWB BB QB KB CB SB XC
                try simp only [Act.put, List.setIfInBounds_toArray, List.set_cons_zero, List.set_cons_succ]
                refine UntH.step (i := 7) (by kernel_rfl) rfl (fun K hK => ?_)
                refine step_append_lies _ (by rfl) (.tmp 46) (.tmp 51) 58 (by rfl) W.heap.size 60 ie (.agg #[.int .i64 0, .string ⟨#[]⟩, .string ⟨#[]⟩, .slice none 0 0, .slice none 0 0, .slice none 0 0, .slice none 0 0, .int .i64 0]) 8 144 Tryz.underlying58 hie hz0 hz1 hz2 rfl (by decide) _ ks.length cs (by rfl) RWC.out.row ⟨wB.heap.size, 0, none⟩ 1 1 [.int .i64 c2.k, .string ⟨c2.nm.toArray⟩, .string ⟨c2.tx.toArray⟩, .slice d3 c2.pre.length e3, .slice d4 c2.sp.length e4, .slice d5 c2.ns.length e5, .slice d6 c2.kids.length e6, .int .i64 c2.p] (by rfl) (by rfl) HNW.out (by simp [Value.oneCell']) (by decide) (by have := HKL.out; have := HN.out; have := HFEW.out; unfold maxLen; omega) (by have := HKL.out; have := HN.out; have := HFEW.out; omega) (by have := RWC.out.bas; have := lt_of_block RWC.out.blk; omega) _ rfl ?_
                intro gD cD wD h1 h2 h3 h4
                have HPU : Hid (RowA (wD.setCell ⟨P6, 6, none⟩ (.slice (some ⟨gD, 0, none⟩) (ks.length + 1) cD)) W.heap.size P6 kind cp (ks ++ [c2]) (.slice (some ⟨gD, 0, none⟩) (ks.length + 1) cD) _ (bs ++ cb)) := RowA.push RWC.out CC.out HND.out HWA.out HLO.out rfl h2 h1 h3
                have hkg := kept_of_grown h2
                have hge : ∀ k, (Value.slice a6 ks.length c6).ownBlock = some k → W.heap.size ≤ k := fun k hk => (World.ownsRow.lt RWC.out.row k hk).1
                have KG : Hid (Kept (fun k => W.heap.size ≤ k) (wB.alloc (.cells #[.int .i64 c2.k, .string ⟨c2.nm.toArray⟩, .string ⟨c2.tx.toArray⟩, .slice d3 c2.pre.length e3, .slice d4 c2.sp.length e4, .slice d5 c2.ns.length e5, .slice d6 c2.kids.length e6, .int .i64 c2.p] 60)) wD) := hkg.mono hge
                have PD : Hid (wD.heap[P6]? = wA.heap[P6]?) := (hkg.block P6 (lt_of_block RWC.out.blk) (fun e => (List.nodup_cons.1 RWC.out.nd).1 (List.mem_append.2 (.inl (mem_blk.2 e))))).trans (RWC.out.blk.trans RWA.out.blk.symm)
                have hl2 : ¬ W.heap.size ≤ B ∧ ¬ W.heap.size ≤ Q ∧ ¬ W.heap.size ≤ rp ∧ ¬ W.heap.size ≤ g := by have := HGL.out; have := HSZ.out; exact ⟨by omega, by omega, by omega, by omega⟩
                have BD := hide ((KG.out.block B (lt_of_block BC.out) hl2.1).trans BC.out)
                have QD := hide ((KG.out.block Q (lt_of_block QC.out) hl2.2.1).trans QC.out)
                have RD := hide (RC.out.kept KG.out hl2.2.2.1 hl2.2.2.2)
                have KD : Hid (Kept (fun k => k = rp) w wD) := Kept.trans_new KC.out KG.out (fun k h1 h2 => absurd h2 (by have := HSZ.out; omega))
                have SD := hide (SF.out wD PD.out BD.out)
                have P6D := hide (PD.out.trans RWA.out.blk)
                refine hK _ _ SD.out ?_
                clear hK K h1 h2 h3 h4 hkg hge KG RC RWC BC QC KC CC SC HNW RWA hl2
                refine UntH.take (i := 8) (some 53) rfl rfl (by kernel_rfl) (by kernel_rfl) (by kernel_rfl) (by kernel_rfl) (fun _ _ _ _ h => h) (by rfl) SD.out ?_
                apply Exists.intro
                refine ⟨fun w' hw' => ?_, ?_⟩
                · obtain ⟨q1, q2⟩ := hw'
                  go_simp
                  first | done | rfl
                have c7 := SD.out.1
                have f7 := frozen_of_row wD P6 6 _ _ P6D.out
                refine UntH.last (by kernel_rfl) rfl (by kernel_rfl) (by kernel_rfl) (fun K hK => ?_)
                go_simp
                refine hK _ _ ?_
                clear hK K c7 f7
                have K9 : Hid (Kept (fun k => k = P6) wD (wD.setCell ⟨P6, 6, none⟩ (.slice (some ⟨gD, 0, none⟩) (ks.length + 1) cD))) := Kept.setCell (F := fun k => k = P6) (p := ⟨P6, 6, none⟩) (Kept.refl _ _) rfl _
                have hl2 : B ≠ P6 ∧ Q ≠ P6 ∧ rp ≠ P6 ∧ g ≠ P6 := by have := HGL.out; have := HSZ.out; have := HP6.out; exact ⟨by omega, by omega, by omega, by omega⟩
                have B9 := hide ((K9.out.block B (lt_of_block BD.out) hl2.1).trans BD.out)
                have Q9 := hide ((K9.out.block Q (lt_of_block QD.out) hl2.2.1).trans QD.out)
                have R9 := hide (RD.out.kept K9.out hl2.2.2.1 hl2.2.2.2)
                have KK9 : Hid (Kept (fun k => k = rp) w (wD.setCell ⟨P6, 6, none⟩ (.slice (some ⟨gD, 0, none⟩) (ks.length + 1) cD))) := Kept.trans_new KD.out K9.out (fun k h1 h2 => absurd h1 (by have := HSZ.out; have := HP6.out; rw [h2]; omega))
                clear hl2 BD QD RD KD SD P6D PD K9 SF
                generalize wD.setCell ⟨P6, 6, none⟩ (.slice (some ⟨gD, 0, none⟩) (ks.length + 1) cD) = w9 at *
                have HGD2 : Hid (∀ k ∈ ks ++ [c2], Gd Ts.length k) := fun k hk => by
                  rcases List.mem_append.1 hk with hk | hk
                  · exact HGD.out k hk
                  · rw [List.mem_singleton.1 hk]; exact HGC.out
                go_wp2
                go_roundg (f' + 1)
                case measure => have := HG.out; omega
                case rel => exact ⟨_, _, _, _, j2, f', (by first | rfl | trivial), HPU, R9, KK9, B9, Q9, HM4, by have := HKL.out; have := HJ2.out; unfold Hid; rw [List.length_append, List.length_singleton]; omega, HGD2, by have := HFU.out; have := HJ2.out; unfold Hid; omega, by have := HIJ.out; have := HJ2.out; unfold Hid; omega, by omega⟩
          · have hw' : isT Ts 1 word j' = false := by simpa using hw
            have HM2 : Hid (x = overP (.mk kind [] [] [] [] [] ks cp) j') := by unfold Hid; rw [HM.out, if_neg hw]
            rw [hw'] at HW
            clear HM hw hw'
            go_upto_region 10 with (go_at_call 72; refine HW.out.mono ?_; rintro e w6 ⟨rfl, x6⟩; have X6 := hide x6; clear x6)
            have R6 := hide (RR.out.below X6.out)
            have RW6 := hide (RW.out.below X6.out)
            have Q6 := hide ((X6.out.block Q (lt_of_block QR.out)).trans QR.out)
            have K6 := hide (KR.out.trans (Kept.of_below X6.out))
            clear g0 HW X6 RR RW BR QR KR
            obtain ⟨q0, q1, q2, q3, q4, q5, q6, q7⟩ := ld8 RW6.out.blk
            have HNR : Hid (Nrw 1048576 (.mk kind [] [] [] [] [] ks cp)) := Nrw.of (by have := HKL.out; have := R6.out.lt; have := R6.out.few; show ks.length ≤ 1048576; omega) (fun k hk => Nrw.mono R6.out.few k (HGD.out k hk).2)
            have HDP : Hid (dpt (.mk kind [] [] [] [] [] ks cp) ≤ 1048576) := by
              have e := dpt_kids (.mk kind [] [] [] [] [] ks cp)
              have : dpt.dptL ks ≤ 16 := dptL_le.2 (fun k hk => (HGD.out k hk).1)
              unfold Hid
              rw [e]
              show dpt.dptL ks + 1 ≤ _
              omega
            have HC6 := hide RW6.out.ct
            by_cases hd : dpt (.mk kind [] [] [] [] [] ks cp) ≤ 16
            · have HO := hide (over_ok hd HDP.out HNR.out HC6.out)
              have HM3 : Hid (x = .ok (.mk kind [] [] [] [] [] ks cp) j') := by unfold Hid; rw [HM2.out]; unfold overP; rw [if_neg (by omega)]
              clear hd HM2
              go_wp2_with (fail)
              refine HO.out.mono ?_
              rintro e w7 ⟨rfl, x7⟩
              have X7 := hide x7
              clear x7 HO q0 q1 q2 q3 q4 q5 q6 q7
              have R7 := hide (R6.out.below X7.out)
              have RW7 := hide (RW6.out.below X7.out)
              have Q7 := hide ((X7.out.block Q (lt_of_block Q6.out)).trans Q6.out)
              have K7 := hide (K6.out.trans (Kept.of_below X7.out))
              clear R6 RW6 Q6 K6 X7 HC6
              obtain ⟨⟨_, p0⟩, f0, ⟨_, p1⟩, f1, ⟨_, p2⟩, f2, ⟨_, p3⟩, f3, ⟨_, p4⟩, f4, ⟨_, p5⟩, f5, ⟨_, p6⟩, f6, ⟨_, p7⟩, f7, hsb, hsk⟩ := st8 Q7.out (.int .i64 kind) (.string ⟨#[]⟩) (.string ⟨#[]⟩) (.slice none 0 0) (.slice none 0 0) (.slice none 0 0) (.slice a6 ks.length c6) (.int .i64 cp)
              have HSB := hide hsb
              have KQ := hide hsk
              clear hsb hsk
              go_wp2
              clear p0 f0 p1 f1 p2 f2 p3 f3 p4 f4 p5 f5 p6 f6 p7 f7
              generalize ((((((((w7.setCell ⟨Q, 0, none⟩ (.int .i64 kind)).setCell ⟨Q, 1, none⟩ (.string ⟨#[]⟩)).setCell ⟨Q, 2, none⟩ (.string ⟨#[]⟩)).setCell ⟨Q, 3, none⟩ (.slice none 0 0)).setCell ⟨Q, 4, none⟩ (.slice none 0 0)).setCell ⟨Q, 5, none⟩ (.slice none 0 0)).setCell ⟨Q, 6, none⟩ (.slice a6 ks.length c6)).setCell ⟨Q, 7, none⟩ (.int .i64 cp)) = w9 at *
              obtain ⟨q0, q1, q2, q3, q4, q5, q6, q7⟩ := ld8 HSB.out
              refine bodyPost_ret (by simp [results, Tryz.results119, go_sem, q0, q1, q2, q3, q4, q5, q6, q7]; try rfl) rfl ?_
              refine PostC.okI HM3.out rfl (RW7.out.ct.frame KQ.out (fun k hk => ?_) ?_) (List.nodup_cons.1 RW7.out.nd).2 (R7.out.kept KQ.out ?_ ?_) (K7.out.fin KQ.out ?_)
              · have := HSZ.out
                rw [hk]
                omega
              · have := HSZ.out
                omega
              · have := HGL.out
                have := HSZ.out
                show ¬ rp = Q
                omega
              · have := HGL.out
                have := HSZ.out
                show ¬ g = Q
                omega
              · have := HSZ.out
                omega
            · have HO := hide (over_bad hd HDP.out HNR.out HC6.out)
              have HM3 : Hid (x = .bad 91 cp) := by unfold Hid; rw [HM2.out]; unfold overP; rw [if_pos (by omega)]; rfl
              clear hd HM2
              go_wp2_with (fail)
              refine HO.out.mono ?_
              rintro e w7 ⟨he, x7⟩
              unfold pan at he
              subst he
              exact ⟨rfl, PostC.badI HM3.out rfl (K6.out.trans (Kept.of_below x7))⟩

    · have hw' : isT Ts 1 word j = false := by simpa using hw
      have HX3 : Hid (x = .ok c j) := by unfold Hid; rw [HX2.out, if_neg hw]
      rw [hw'] at HW
      clear hw hw' HX2
      go_upto_region 3 with (go_at_call 72; refine HW.out.mono ?_; rintro e w4 ⟨rfl, x4⟩; have X4 := hide x4; clear x4)
      have R4 := hide (R3.out.below X4.out)
      have P4 := hide ((X4.out.block P (lt_of_block P3.out)).trans P3.out)
      have Q4 := hide ((X4.out.block Q (lt_of_block Q3.out)).trans Q3.out)
      have C4 := hide (C3.out.below X4.out)
      have K4 := hide (K3.out.trans (Kept.of_below X4.out))
      obtain ⟨q0, q1, q2, q3, q4, q5, q6, q7⟩ := ld8 P4.out
      obtain ⟨⟨_, p0⟩, f0, ⟨_, p1⟩, f1, ⟨_, p2⟩, f2, ⟨_, p3⟩, f3, ⟨_, p4⟩, f4, ⟨_, p5⟩, f5, ⟨_, p6⟩, f6, ⟨_, p7⟩, f7, hsb, hsk⟩ := st8 Q4.out (.int .i64 c.k) (.string ⟨c.nm.toArray⟩) (.string ⟨c.tx.toArray⟩) (.slice a3 c.pre.length c3) (.slice a4 c.sp.length c4) (.slice a5 c.ns.length c5) (.slice a6 c.kids.length c6) (.int .i64 c.p)
      have HSB := hide hsb
      have KQ := hide hsk
      clear hsb hsk
      go_wp2
      clear q0 q1 q2 q3 q4 q5 q6 q7
      clear p0 f0 p1 f1 p2 f2 p3 f3 p4 f4 p5 f5 p6 f6 p7 f7
      generalize ((((((((w4.setCell ⟨Q, 0, none⟩ (.int .i64 c.k)).setCell ⟨Q, 1, none⟩ (.string ⟨c.nm.toArray⟩)).setCell ⟨Q, 2, none⟩ (.string ⟨c.tx.toArray⟩)).setCell ⟨Q, 3, none⟩ (.slice a3 c.pre.length c3)).setCell ⟨Q, 4, none⟩ (.slice a4 c.sp.length c4)).setCell ⟨Q, 5, none⟩ (.slice a5 c.ns.length c5)).setCell ⟨Q, 6, none⟩ (.slice a6 c.kids.length c6)).setCell ⟨Q, 7, none⟩ (.int .i64 c.p)) = w9 at *
      obtain ⟨q0, q1, q2, q3, q4, q5, q6, q7⟩ := ld8 HSB.out
      refine bodyPost_ret (by simp [results, Tryz.results119, go_sem, q0, q1, q2, q3, q4, q5, q6, q7]; try rfl) rfl ?_
      refine PostC.okI HX3.out rfl (C4.out.frame KQ.out (fun k hk => ?_) ?_) HND.out (R4.out.kept KQ.out ?_ ?_) (K4.out.fin KQ.out ?_)
      · have := HSZ.out
        rw [hk]
        omega
      · have := HSZ.out
        omega
      · have := HGL.out
        have := HSZ.out
        show ¬ rp = Q
        omega
      · have := HGL.out
        have := HSZ.out
        show ¬ g = Q
        omega
      · have := HSZ.out
        omega

end Go.Proofs.YtlmhofjiobmodaaGreatDoor
