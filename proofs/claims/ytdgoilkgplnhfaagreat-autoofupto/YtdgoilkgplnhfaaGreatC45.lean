/-
  The document's Step and Match by their contracts. Condition: lists and the text are no longer than a process can hold.
-/
import Derived.Test.YtdgoilkgplnhfaaGreatC44
set_option maxRecDepth 100000
set_option maxHeartbeats 16000000
namespace Go.Proofs.YtdgoilkgplnhfaaGreat
open Go.RowKit Go.Lib
theorem refStep_any (ao : Option Addr) (cap g : Nat) (D : List PD) (f : Nat → Bool) (c : UInt8) (w : World) (hl : D.length ≤ 64) (hR : ∀ d ∈ D, Rp d.p) (hLen : ∀ d ∈ D, d.p.set.length ≤ 140737488351232) (hat : PcAt w ao D) (hm : MkAt w g (D.length + 1) f) :
 Calls Tryz.prog 51 #[.slice ao D.length cap, .slice (some ⟨g, 0, none⟩) (D.length + 1) (D.length + 1), .int .u8 (c.toNat : Nat)] w fun e w' => e = .returned (.slice (some ⟨w.heap.size, 0, none⟩) (D.length + 1) (D.length + 1)) ∧ MkAt w' w.heap.size (D.length + 1) (stF (D.map PD.p) f c) ∧ Below w.heap.size w w' := by
 have hmk := make_marks D.length hl
 have M1 : Hid (MkAt (w.alloc (.cells (mkn (D.length + 1) fun _ => false) 4)) w.heap.size (D.length + 1) fun _ => false) := heap_alloc_new _ _
 have X1 := hide (al (Below.refl w.heap.size w) (.cells (mkn (D.length + 1) fun _ => false) 4))
 have HAT := hide hat
 have HR := hide hR
 have HLEN := hide hLen
 have HM := hide hm
 clear hat hR hLen hm
 go_enter Tryz.func51, Tryz.ntmps51
 go_wp2
 clear hmk
 go_loopw [8] (fun x wr => ∃ k : Nat, k ≤ D.length ∧ x = .int .i64 k ∧ Hid (MkAt wr w.heap.size (D.length + 1) (afF (D.map PD.p) f ((c.toNat : Nat) : Int) k)) ∧ Hid (Below w.heap.size w wr)) (fun x _ => D.length - (RowKit.intOf x).toNat)
 case atStart => exact ⟨0, Nat.zero_le _, rfl, M1, X1⟩
 case round =>
  obtain ⟨k, hk, rfl, M, X⟩ := hrel
  rename World => wr
  clear M1 X1
  by_cases hlt : k < D.length
  · have hlt' : (k : Int) < (D.length : Int) := by omega
    have h65 : (k : Int) < (D.length : Int) + 1 := by omega
    have h66 : (k : Int) + 1 < (D.length : Int) + 1 := by omega
    rcases HAT.out with h | ⟨b, off, rfl, hb, hc⟩
    · rw [h] at hlt; simp at hlt
    obtain ⟨p0, p1, p2, p3, p4⟩ := hc k hlt
    have hbw : b < wr.heap.size := Nat.lt_of_lt_of_le hb X.out.size
    have r0 := (X.out.cell (p := ⟨b, off + k * 4, none⟩) hb).trans p0
    have r1 := (X.out.cell (p := ⟨b, off + k * 4 + 1, none⟩) hb).trans p1
    have r2 := (X.out.cell (p := ⟨b, off + k * 4 + 2, none⟩) hb).trans p2
    have r3 := (X.out.cell (p := ⟨b, off + k * 4 + 3, none⟩) hb).trans p3
    have P4 := hide (p4.below X.out)
    have HN := hide (fun h1 => afF_no (D := D) (f := f) (b := ((c.toNat : Nat) : Int)) (k := k) hlt h1)
    have HY1 := hide (fun h1 h2 h3 => afF_many (D := D) (f := f) (b := ((c.toNat : Nat) : Int)) (k := k) hlt h1 h2 h3)
    have HY2 := hide (fun h1 h2 h3 => afF_one (D := D) (f := f) (b := ((c.toNat : Nat) : Int)) (k := k) hlt h1 h2 h3)
    have HTK := hide (refTakes_any D[k].p.kind D[k].p.b D[k].p.no D[k].so D[k].sc D[k].p.set c wr (HR.out _ (List.getElem_mem hlt)) (HLEN.out _ (List.getElem_mem hlt)) P4.out)
    have HMN := hide (fun w => star_any D[k].p.kind D[k].p.b D[k].p.no D[k].so D[k].p.set.length D[k].sc w)
    have HEP : Hid ((⟨D[k].p.kind, D[k].p.b, D[k].p.no, D[k].p.set⟩ : Pc) = D[k].p) := rfl
    rw [HEP.out] at HTK
    have HGC := hide (fun W (x : Below w.heap.size w W) => ((HM.out.kept x).cell (show k < D.length + 1 by omega)).1)
    generalize htk : tkB D[k].p ((c.toNat : Nat) : Int) = tk at *
    generalize hmm : manyK D[k].p.kind = mm at *
    generalize D[k].p.kind = kd at *
    generalize D[k].p.b = kb at *
    generalize D[k].p.no = kn at *
    generalize D[k].p.set.length = kl at *
    generalize D[k].so = ks at *
    generalize D[k].sc = kc at *
    clear hc p0 p1 p2 p3 p4 P4 HEP htk hmm
    generalize hf : f k = fk at *
    clear hf
    cases fk with
    | false =>
      have HE := hide (HN.out rfl)
      go_wp2_with (first
       | (go_at_call 90; refine HTK.out.mono ?_; rintro e w4 ⟨rfl, x4⟩; have X4 := hide x4; have M4 := hide (M.out.kept x4); have q0 := (x4.cell (p := ⟨b, off + k * 4, none⟩) hbw).trans r0; have q1 := (x4.cell (p := ⟨b, off + k * 4 + 1, none⟩) hbw).trans r1; have q2 := (x4.cell (p := ⟨b, off + k * 4 + 2, none⟩) hbw).trans r2; have q3 := (x4.cell (p := ⟨b, off + k * 4 + 3, none⟩) hbw).trans r3; have hb4 := Nat.lt_of_lt_of_le hbw x4.size; clear x4)
       | (go_at_call 88; refine (HMN.out _).mono ?_; rintro e w5 ⟨rfl, x5⟩; have X5 := hide (bt X4.out x5 (Nat.le_refl _)); have M5 := hide (M4.out.kept x5); have XW := hide (bt X.out X5.out (Nat.le_refl _)); have g0 := HGC.out _ XW.out; obtain ⟨m0, n0⟩ := M5.out.cell (show k < D.length + 1 by omega); obtain ⟨m1, n1⟩ := M5.out.cell (show k + 1 < D.length + 1 by omega); clear x5))
      go_roundw
      case rel => exact ⟨k + 1, by omega, by go_num, by unfold Hid; rw [HE.out]; exact M5.out, XW⟩
      case measure => simp [RowKit.intOf]; omega
    | true =>
      cases tk with
      | false =>
        have HE := hide (HN.out rfl)
        go_wp2_with (first
         | (go_at_call 90; refine HTK.out.mono ?_; rintro e w4 ⟨rfl, x4⟩; have X4 := hide x4; have M4 := hide (M.out.kept x4); have q0 := (x4.cell (p := ⟨b, off + k * 4, none⟩) hbw).trans r0; have q1 := (x4.cell (p := ⟨b, off + k * 4 + 1, none⟩) hbw).trans r1; have q2 := (x4.cell (p := ⟨b, off + k * 4 + 2, none⟩) hbw).trans r2; have q3 := (x4.cell (p := ⟨b, off + k * 4 + 3, none⟩) hbw).trans r3; have hb4 := Nat.lt_of_lt_of_le hbw x4.size; clear x4)
         | (go_at_call 88; refine (HMN.out _).mono ?_; rintro e w5 ⟨rfl, x5⟩; have X5 := hide (bt X4.out x5 (Nat.le_refl _)); have M5 := hide (M4.out.kept x5); have XW := hide (bt X.out X5.out (Nat.le_refl _)); have g0 := HGC.out _ XW.out; obtain ⟨m0, n0⟩ := M5.out.cell (show k < D.length + 1 by omega); obtain ⟨m1, n1⟩ := M5.out.cell (show k + 1 < D.length + 1 by omega); clear x5))
        go_roundw
        case rel => exact ⟨k + 1, by omega, by go_num, by unfold Hid; rw [HE.out]; exact M5.out, XW⟩
        case measure => simp [RowKit.intOf]; omega
      | true =>
        cases mm with
        | true =>
          have HE := hide (HY1.out rfl rfl rfl)
          go_wp2_with (first
           | (go_at_call 90; refine HTK.out.mono ?_; rintro e w4 ⟨rfl, x4⟩; have X4 := hide x4; have M4 := hide (M.out.kept x4); have q0 := (x4.cell (p := ⟨b, off + k * 4, none⟩) hbw).trans r0; have q1 := (x4.cell (p := ⟨b, off + k * 4 + 1, none⟩) hbw).trans r1; have q2 := (x4.cell (p := ⟨b, off + k * 4 + 2, none⟩) hbw).trans r2; have q3 := (x4.cell (p := ⟨b, off + k * 4 + 3, none⟩) hbw).trans r3; have hb4 := Nat.lt_of_lt_of_le hbw x4.size; clear x4)
           | (go_at_call 88; refine (HMN.out _).mono ?_; rintro e w5 ⟨rfl, x5⟩; have X5 := hide (bt X4.out x5 (Nat.le_refl _)); have M5 := hide (M4.out.kept x5); have XW := hide (bt X.out X5.out (Nat.le_refl _)); have g0 := HGC.out _ XW.out; obtain ⟨m0, n0⟩ := M5.out.cell (show k < D.length + 1 by omega); obtain ⟨m1, n1⟩ := M5.out.cell (show k + 1 < D.length + 1 by omega); clear x5))
          go_roundw
          case rel => exact ⟨k + 1, by omega, by go_num, by unfold Hid; rw [HE.out]; exact M5.out.set _, XW.out.trans (kept_one.below XW.out.size (fun i hi => by omega))⟩
          case measure => simp [RowKit.intOf]; omega
        | false =>
          have HE := hide (HY2.out rfl rfl rfl)
          go_wp2_with (first
           | (go_at_call 90; refine HTK.out.mono ?_; rintro e w4 ⟨rfl, x4⟩; have X4 := hide x4; have M4 := hide (M.out.kept x4); have q0 := (x4.cell (p := ⟨b, off + k * 4, none⟩) hbw).trans r0; have q1 := (x4.cell (p := ⟨b, off + k * 4 + 1, none⟩) hbw).trans r1; have q2 := (x4.cell (p := ⟨b, off + k * 4 + 2, none⟩) hbw).trans r2; have q3 := (x4.cell (p := ⟨b, off + k * 4 + 3, none⟩) hbw).trans r3; have hb4 := Nat.lt_of_lt_of_le hbw x4.size; clear x4)
           | (go_at_call 88; refine (HMN.out _).mono ?_; rintro e w5 ⟨rfl, x5⟩; have X5 := hide (bt X4.out x5 (Nat.le_refl _)); have M5 := hide (M4.out.kept x5); have XW := hide (bt X.out X5.out (Nat.le_refl _)); have g0 := HGC.out _ XW.out; obtain ⟨m0, n0⟩ := M5.out.cell (show k < D.length + 1 by omega); obtain ⟨m1, n1⟩ := M5.out.cell (show k + 1 < D.length + 1 by omega); clear x5))
          go_roundw
          case rel => exact ⟨k + 1, by omega, by go_num, by unfold Hid; rw [HE.out]; exact M5.out.set _, XW.out.trans (kept_one.below XW.out.size (fun i hi => by omega))⟩
          case measure => simp [RowKit.intOf]; omega
  · have hnl : ¬ (k : Int) < (D.length : Int) := by omega
    have hkl : k = D.length := by omega
    subst hkl
    have HE : Hid (stF (D.map PD.p) f c = clF (D.map PD.p) (afF (D.map PD.p) f ((c.toNat : Nat) : Int) D.length) D.length) := by unfold Hid stF; rw [List.length_map]
    have HC := hide (refClose_any ao cap w.heap.size D (afF (D.map PD.p) f ((c.toNat : Nat) : Int) D.length) w wr hl HAT.out X.out (Nat.le_refl _) M.out)
    rw [← HE.out] at HC
    go_wp2_with (go_at_call 89; refine HC.out.mono ?_; rintro e w3 ⟨rfl, m3, k3⟩; have M3 := hide m3; have X3 : Hid (Below w.heap.size w w3) := X.out.trans (k3.below X.out.size (fun i hi => by omega)); clear m3 k3)
    go_ret
    exact ⟨rfl, M3.out, X3.out⟩
theorem own_blk {w : World} {base g n : Nat} {e : TypeId} {xs : List Value} (h : w.heap[g]? = some (.cells xs.toArray e (0, 0))) (hb : base ≤ g) (hn : xs.length = n) (hm : n ≤ maxLen) : w.ownsRow base e 1 (.slice (some ⟨g, 0, none⟩) n n) n xs :=
 ⟨by omega, .inr ⟨g, n, xs.toArray, rfl, hb, h, Nat.le_refl _, hm, by simp [hn], by simp [List.take_of_length_le, hn]⟩⟩
theorem blk_own {w : World} {base g n : Nat} {e : TypeId} {xs : List Value} (h : w.ownsRow base e 1 (.slice (some ⟨g, 0, none⟩) n n) n xs) : w.heap[g]? = some (.cells xs.toArray e (0, 0)) := by
 rcases h.2 with ⟨h', _⟩ | ⟨g', cap', cur, h', hb, hg, hnc, hcm, hcs, htake⟩
 · simp at h'
 · simp only [Value.slice.injEq, Option.some.injEq, Addr.mk.injEq, and_true, true_and] at h'
   obtain ⟨rfl, rfl⟩ := h'
   rw [hg, ← htake, List.take_of_length_le (by simp; omega)]
def tk (n : Nat) (B : List Bool) : List Bool := B.take (n + 1)
theorem tk_len {n : Nat} (hn : n ≤ 64) {B : List Bool} (h : B.length = 65) : (tk n B).length = n + 1 := by unfold tk; rw [List.length_take]; omega
theorem mkn_tk {n : Nat} (hn : n ≤ 64) {B : List Bool} (h : B.length = 65) : mkn (n + 1) (plF B) = (bC (tk n B)).toArray := by
 unfold mkn bC tk
 congr 1
 refine List.ext_getElem (by simp; omega) (fun i h1 h2 => ?_)
 simp only [List.length_map, List.length_range] at h1
 simp [plF, List.getD_eq_getElem?_getD, show i < B.length by omega]
theorem mkn_pl {n : Nat} (hn : n ≤ 64) (f : Nat → Bool) : mkn (n + 1) f = (bC (tk n (plL f))).toArray := by
 rw [← mkn_tk hn (plL_len f)]
 unfold mkn
 congr 1
 refine List.map_congr_left (fun i hi => ?_)
 rw [plF_plL f (by have := List.mem_range.1 hi; omega)]
def RbIn (RR : List VR) (G : List Nat) (R : List (List Bool)) (m : Nat) : Prop := G.length = R.length ∧ ∀ j, j < R.length → (R.getD j []).length = m ∧ ∃ i, ∃ h : i < RR.length, RR[i] = (.slice (some ⟨gN G j, 0, none⟩) m m, 4, bC (R.getD j []))
theorem RbIn.nil (RR : List VR) (m : Nat) : RbIn RR [] [] m := ⟨rfl, fun j hj => (by cases hj)⟩
theorem RbIn.add {RR : List VR} {G : List Nat} {R : List (List Bool)} {m g : Nat} {L : List Bool} (h : RbIn RR G R m) (hl : L.length = m) : RbIn ((.slice (some ⟨g, 0, none⟩) m m, 4, bC L) :: RR) (G ++ [g]) (R ++ [L]) m := by
 refine ⟨by simp [h.1], fun j hj => ?_⟩
 by_cases e : j < R.length
 · have e1 : (R ++ [L]).getD j [] = R.getD j [] := by simp [List.getD_eq_getElem?_getD, List.getElem?_append, e]
   obtain ⟨h1, i, hi, h2⟩ := h.2 j e
   rw [e1, gN_left (by rw [h.1]; exact e)]
   exact ⟨h1, i + 1, by simp; exact hi, by simp; exact h2⟩
 · have e2 : j = R.length := by simp at hj; omega
   subst e2
   have e1 : (R ++ [L]).getD R.length [] = L := by simp [List.getD_eq_getElem?_getD]
   have e3 := gN_last G g
   rw [h.1] at e3
   rw [e1, e3]
   exact ⟨hl, 0, by simp, by simp⟩
theorem RbIn.row {w0 V : World} {RR : List VR} {G : List Nat} {R : List (List Bool)} {m : Nat} {Q : List VR} (h : RbIn RR G R m) (F : Fr w0 (Q ++ RR) V) {i : Nat} (hi : i < R.length) : V.ownsRow w0.heap.size 4 1 (.slice (some ⟨gN G i, 0, none⟩) m m) m (bC R[i]) := by
 obtain ⟨h1, j, hj, h2⟩ := h.2 i hi
 have eR : R.getD i [] = R[i] := by simp [List.getD_eq_getElem?_getD, hi]
 rw [eR] at h1 h2
 have hjl : Q.length + j < (Q ++ RR).length := by simp; exact hj
 have e2 : (Q ++ RR)[Q.length + j] = (.slice (some ⟨gN G i, 0, none⟩) m m, 4, bC R[i]) := by
  rw [List.getElem_append_right (by omega)]
  simp only [Nat.add_sub_cancel_left]
  exact h2
 have := F.own hjl e2
 rw [bC_len, h1] at this
 exact this
theorem bAt_own {w : World} {base g n cap : Nat} {B : List Bool} (h : w.ownsRow base 4 1 (.slice (some ⟨g, 0, none⟩) n cap) B.length (bC B)) : BAt w (some ⟨g, 0, none⟩) B := .inr ⟨g, 0, rfl, fun i hi => by
 rcases h.2 with ⟨e, _⟩ | ⟨g', c', cur, e, _⟩
 · cases e
 · injection e with _ e2 _
   subst e2
   rw [Nat.zero_add, h.cellAt i (by omega)]
   simp [bC, gB, List.getD_eq_getElem?_getD, hi]⟩
theorem RbIn.at {w0 V : World} {RR : List VR} {G : List Nat} {R : List (List Bool)} {m k : Nat} {Q : List VR} {ra : Option Addr} {rn rc : Nat} (h : RbIn RR G R m) (F : Fr w0 (Q ++ RR) V) (hk : k < Q.length) (hQ : Q[k] = (.slice ra rn rc, 86, sC G m)) : RbAt V ra R := by
 by_cases h0 : R.length = 0
 · exact .inl (List.eq_nil_of_length_eq_zero h0)
 have hkl : k < (Q ++ RR).length := by simp; omega
 have eQ : (Q ++ RR)[k] = (.slice ra rn rc, 86, sC G m) := by rw [List.getElem_append_left hk]; exact hQ
 obtain ⟨g, e, _, _⟩ := F.cell hkl eQ (k := 0) (by rw [sC_len, h.1]; omega)
 refine .inr ⟨g, 0, e, fun i hi => ?_⟩
 subst e
 obtain ⟨s0, _⟩ := F.slot hkl eQ (k := i) (by rw [sC_len, h.1]; exact hi)
 have h1 := (h.2 i hi).1
 have eR : R.getD i [] = R[i] := by simp [List.getD_eq_getElem?_getD, hi]
 rw [eR] at h1
 have ho := h.row F hi
 rw [← h1] at ho
 refine ⟨some ⟨gN G i, 0, none⟩, m, ?_, bAt_own ho⟩
 rw [Nat.zero_add, s0, h1]
 have hig : i < G.length := by rw [h.1]; exact hi
 simp [sC, gN_lt hig]
end Go.Proofs.YtdgoilkgplnhfaaGreat
