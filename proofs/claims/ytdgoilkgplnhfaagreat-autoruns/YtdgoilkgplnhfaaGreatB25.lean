/-
  The code's split by its contract. Condition: at most 65536 states.
-/
import Derived.Test.YtdgoilkgplnhfaaGreatB24
namespace Go.Proofs.YtdgoilkgplnhfaaGreat
open Go.RowKit Go.Lib

theorem NAt.kept {G : Nat → Prop} {w w' : World} {ao : Option Addr} {L : List Nat} (h : NAt w ao L) (x : Kept G w w') (hG : ∀ b off, ao = some ⟨b, off, none⟩ → ¬ G b) : NAt w' ao L := by
  rcases h with h | ⟨b, off, h1, h2, h3⟩
  · exact .inl h
  · exact .inr ⟨b, off, h1, Nat.lt_of_lt_of_le h2 x.size, fun i hi => (x.cell (p := ⟨b, off + i, none⟩) h2 (hG b off h1)).trans (h3 i hi)⟩
set_option maxRecDepth 100000 in
set_option maxHeartbeats 8000000 in
theorem split_any {n W c : Nat} {NX S F T : List Nat} (w : World) (base pb : Nat) (lv pv ov rv : Value) (L P O : List Nat) (R : List Rm) (sg sc fg fc tcap : Nat) (ta : Option Addr) (h : PrM w base pb lv pv ov rv L P O R) (hp : PtS n L P O R) (hpl : Plain R) (hB : BkS n W NX S F) (hc : c < W) (hW : W ≤ 256) (hn : n ≤ 65536)
    (hT : ∀ j, j < T.length → gN T j < n) (hd : ∀ i, i < T.length → ∀ j, j < T.length → gN T i = gN T j → i = j) (hfc : F.length ≤ fc) (hsa : NAt w (some ⟨sg, 0, none⟩) S) (hfa : NAt w (some ⟨fg, 0, none⟩) F) (hta : NAt w ta T)
    (d1 : ¬ inP lv pv ov rv sg) (d2 : ¬ inP lv pv ov rv fg) (d3 : ∀ b off, ta = some ⟨b, off, none⟩ → ¬ inP lv pv ov rv b) :
    Calls Tryz.prog 117 #[.pointer (some ⟨pb, 0, none⟩), bkV n sg S.length sc fg F.length fc, .slice ta T.length tcap, .int .i64 (c : Nat)] w fun e w' => e = .returned (.tuple #[]) ∧ ∃ rv' L' P' O' R', SpD n W c NX T base pb lv pv ov rv O R rv' L' P' O' R' w w' := by
  obtain ⟨i3, hi3, hz30, hz31, hz32⟩ := info_parts Tryz.info3n
  have htl : T.length ≤ n := pigeon n T.length (gN T) hT hd
  have X1 : Below w.heap.size w (w.alloc (.cells #[.int .i64 (n : Int), .slice (some ⟨sg, 0, none⟩) S.length sc, .slice (some ⟨fg, 0, none⟩) F.length fc] 157)) := al (Below.refl _ _) _
  have B1 := heap_alloc_new w (.cells #[.int .i64 (n : Int), .slice (some ⟨sg, 0, none⟩) S.length sc, .slice (some ⟨fg, 0, none⟩) F.length fc] 157)
  have hwx : ∃ w1, w1 = w.alloc (.cells #[.int .i64 (n : Int), .slice (some ⟨sg, 0, none⟩) S.length sc, .slice (some ⟨fg, 0, none⟩) F.length fc] 157) := ⟨_, rfl⟩
  obtain ⟨w1, hw1⟩ := hwx
  rw [← hw1] at X1 B1
  have h1 := h.below X1
  have hpb : pb < w.heap.size := lt_of_block h.blk
  have HLT : Hid (∀ b, inP lv pv ov rv b → b < w.heap.size) := fun b hb => inP.lt h hb
  have HL1 : Hid (∀ b, inP lv pv ov rv b → b < w1.heap.size) := fun b hb => Nat.lt_of_lt_of_le (HLT.out b hb) X1.size
  have S0 : Hid (SpM n W c NX S F T base pb lv pv ov rv O w1 0 (gN S (c * n + gN T 0)) (.slice none 0 0) [] L P R w1) :=
    ⟨h1, hp, (MkS.plain hp hpl).congr (fun s _ => mrk.begin.trans ⟨fun ⟨_, j, hj, _⟩ => by omega, fun h => h.elim⟩), TcS.start hpl, OwnN.nil _ _, Kept.refl _ _⟩
  have HK : Hid (∀ W, Kept (fun b => inP lv pv ov rv b) w1 W → NAt W (some ⟨sg, 0, none⟩) S ∧ NAt W (some ⟨fg, 0, none⟩) F ∧ NAt W ta T ∧ W.cell? ⟨w.heap.size, 0, none⟩ = some (.int .i64 (n : Int)) ∧ W.cell? ⟨w.heap.size, 1, none⟩ = some (.slice (some ⟨sg, 0, none⟩) S.length sc) ∧ W.cell? ⟨w.heap.size, 2, none⟩ = some (.slice (some ⟨fg, 0, none⟩) F.length fc)) := fun V x => by
    have Bv := (x.block _ (lt_of_block B1) (fun hf => by have := HLT.out _ hf; omega)).trans B1
    refine ⟨(hsa.below X1).kept x (fun b off e => ?_), (hfa.below X1).kept x (fun b off e => ?_), (hta.below X1).kept x d3, by rw [cell_of_row _ _ _ _ _ _ Bv]; rfl, by rw [cell_of_row _ _ _ _ _ _ Bv]; rfl, by rw [cell_of_row _ _ _ _ _ _ Bv]; rfl⟩
    · injection e with e; injection e with e _ _; rw [← e]; exact d1
    · injection e with e; injection e with e _ _; rw [← e]; exact d2
  have HB := hide hB
  have HT := hide hT
  have HD := hide hd
  have HX1 := hide X1
  have HPL := hide hpl
  clear X1 B1 h1 hsa hfa hta d1 d2 d3 hB hT hd hpl
  have hnW : n * W ≤ 16777216 := Nat.mul_le_mul hn hW
  obtain ⟨R0, hR0'⟩ : ∃ R0, R.length = R0 := ⟨_, rfl⟩
  have hR0 := hide hR0'
  have hR0n : R0 ≤ 65536 := by have := hp.many; omega
  clear hR0'
  unfold bkV
  go_enter Tryz.func117, Tryz.ntmps117
  go_upto_block 0 with fail
  rw [← hw1]
  clear hw1
  go_wp2
  go_loopg [8, 17] (T.length + 1) (fun g tv x wr => ∃ (i : Nat) (Tc L P : List Nat) (R : List Rm), x = .int .i64 (i : Nat) ∧ Hid (SpM n W c NX S F T base pb lv pv ov rv O w1 i (gN S (c * n + gN T i)) tv Tc L P R wr) ∧ Hid (R.length = R0) ∧ i ≤ T.length ∧ T.length - i < g)
  case atStart => exact ⟨0, [], L, P, R, rfl, S0, hR0, by omega, by omega⟩
  case round =>
    obtain ⟨i, Tc, L, P, R, rfl, SM, HRL, hil, hg⟩ := hrel
    have HG := hide hg
    clear hg S0
    obtain ⟨ks, kf, kt, e0, e1, e2⟩ := HK.out wr SM.out.kp
    by_cases hi : i < T.length
    · as_aux_lemma =>
        have hi' : (i : Int) < (T.length : Int) := by omega
        obtain ⟨tb, off, rfl, _, ct⟩ := kt.get hi
        have htn := HT.out i hi
        rw [← gN_lt hi] at ct
        have hq := mul_lt hc htn
        obtain ⟨hle1, hle2⟩ := HB.out.le c hc _ htn
        have HA := hide (ahead_any n (gN T i) c (c * n + gN T i) sg sc fg fc (gN S (c * n + gN T i)) (gN S (c * n + gN T i + 1)) S F wr rfl (by omega) (by have := HB.out.sl; omega) rfl rfl hle1 (by have := HB.out.fl; omega) hfc ks)
        have HNW := hide (fun p h1 h2 => mrk.new HB.out hc HT.out HD.out hi (p := p) h1 h2)
        have HROW := hide (fun s => mrk.row (s := s) HB.out hc HT.out hi)
        unfold bkV at HA
        have HTI : Hid (gN T i = gN T i) := rfl
        obtain ⟨lo, hlo⟩ : ∃ lo, lo = gN S (c * n + gN T i) := ⟨_, rfl⟩
        obtain ⟨hi2, hhi⟩ : ∃ hi2, hi2 = gN S (c * n + gN T i + 1) := ⟨_, rfl⟩
        obtain ⟨tt, htt⟩ : ∃ tt, tt = gN T i := ⟨_, rfl⟩
        rw [← hlo, ← hhi, ← htt] at HA
        rw [← htt] at ct
        rw [← hlo] at SM hle1
        rw [← hhi] at hle1 hle2
        have HLO := hide hlo
        have HHI := hide hhi
        clear hlo hhi htt HTI
        go_wp2_with (fail)
        refine HA.out.mono ?_
        rintro e w3 ⟨⟨ao, rfl, hao⟩, x3⟩
        have S3 := hide (SM.out.below x3)
        have HAO := hide hao
        clear HA x3 SM ct e0 e1 e2 ks kf kt hao
        go_wp2
        go_loopg [8, 26] (hi2 - lo + 1) (fun g tv x wr => ∃ (j : Nat) (Tc L P : List Nat) (R : List Rm), x = .int .i64 (j : Nat) ∧ Hid (SpM n W c NX S F T base pb lv pv ov rv O w1 i (lo + j) tv Tc L P R wr) ∧ Hid (R.length = R0) ∧ lo + j ≤ hi2 ∧ hi2 - lo - j < g)
        case atStart => exact ⟨0, Tc, L, P, R, rfl, S3, HRL, by omega, by omega⟩
        case round =>
          obtain ⟨j, Tc, L, P, R, rfl, SM, HRL, hjl, hg2⟩ := hrel
          have HG2 := hide hg2
          clear hg2 S3
          by_cases hj : lo + j < hi2
          · as_aux_lemma =>
              have hj' : (j : Int) < ((hi2 - lo : Nat) : Int) := by omega
              have eao := HAO.out (by omega)
              subst eao
              obtain ⟨_, kf, _, _, _, _⟩ := HK.out wr SM.out.kp
              have hjF : lo + j < F.length := by have := HB.out.fl; omega
              obtain ⟨_, _, e9, _, cf⟩ := kf.get hjF
              simp only [Option.some.injEq, Addr.mk.injEq, and_true] at e9
              obtain ⟨rfl, rfl⟩ := e9
              rw [← gN_lt hjF, Nat.zero_add] at cf
              obtain ⟨hsn, hnm⟩ := HNW.out (lo + j) (by rw [← HLO.out]; omega) (by rw [← HHI.out]; exact hj)
              have HM := hide (mark_any wr base pb lv pv ov rv L P O R (gN F (lo + j)) SM.out.pr SM.out.pt SM.out.mks hsn hnm hn)
              have HSM := hide (fun (P' : List Nat) (R' : List Rm) (w' : World) hR q3 q4 => SM.out.mark (w' := w') HL1.out (by rw [← HLO.out]; omega) (by rw [← HHI.out]; exact hj) hsn (P' := P') (R' := R') hR q3 q4)
              obtain ⟨s, hs⟩ : ∃ s, s = gN F (lo + j) := ⟨_, rfl⟩
              rw [← hs] at cf hsn HM HSM
              clear hs hnm kf
              go_wp2_with (fail)
              refine HM.out.mono ?_
              rintro e w4 ⟨⟨b, rfl, hb⟩, L', P', q1, q2, q3, q4⟩
              obtain ⟨R', hR'⟩ : ∃ R', R' = R.set (gN O s) ⟨(gR R (gN O s)).a, (gR R (gN O s)).m + 1, (gR R (gN O s)).e⟩ := ⟨_, rfl⟩
              rw [← hR'] at q1 q2 q3
              obtain ⟨p1, p2, p3, p4, p5⟩ := HSM.out P' R' w4 hR' q3 q4
              have HRL' : Hid (R'.length = R0) := by unfold Hid; rw [hR', List.length_set]; exact HRL.out
              have hko : gN O s < R0 := by have := (SM.out.pt.os s hsn).1; have := HRL.out; omega
              clear HM HSM hR'
              cases b with
              | false =>
                have S5 : Hid (SpM n W c NX S F T base pb lv pv ov rv O w1 i (lo + j + 1) _ Tc L' P' R' w4) := ⟨q1, q2, p3, p5 (fun e => by have := hb.2 e; cases this), p1, p2⟩
                clear p1 p2 p3 p4 p5 q1 q2 q3 q4 hb cf
                go_wp2
                go_roundg (hi2 - lo - (j + 1) + 1)
                case measure => have := HG2.out; omega
                case rel => exact ⟨j + 1, Tc, L', P', R', by first | rfl | go_num | (congr 1; omega), S5, HRL', by omega, by omega⟩
              | true =>
                as_aux_lemma =>
                  have htc := p4 (hb.1 rfl)
                  have hTl : Tc.length + 1 ≤ R0 := by have := htc.le; rw [List.length_append, List.length_singleton] at this; have := HRL'.out; omega
                  obtain ⟨_, _, m2, _⟩ := q1.cells
                  obtain ⟨oa, oc, hov⟩ := OwnN.shape (q1.rws.own 2 (by simp))
                  simp only [List.getElem_cons_succ, List.getElem_cons_zero] at hov
                  subst hov
                  obtain ⟨og, rfl, co⟩ := OwnN.gcell (q1.rws.own 2 (by simp)) (k := s) (by show s < O.length; rw [q2.ol]; exact hsn)
                  have n2 : (s : Int) < (O.length : Int) := by have := q2.ol; omega
                  obtain ⟨ta', tc', htv⟩ := OwnN.shape p1
                  subst htv
                  have x5 := NmP.x5 w4 (gN O s)
                  have O5 : Hid ((w4.alloc (.cells #[.int .i64 ((gN O s : Nat) : Int)] 3)).ownsRow w1.heap.size 3 1 (.slice ta' Tc.length tc') Tc.length (nCells Tc)) := own_below p1 x5
                  have HN5 := hide (one_int w4 (gN O s) 3)
                  have HS5 : Hid (w1.heap.size ≤ (w4.alloc (.cells #[.int .i64 ((gN O s : Nat) : Int)] 3)).heap.size) := Nat.le_trans p2.size x5.size
                  have HAP := hide (fun (v6 : Value) (w6 : World) g1 g2 => SpM.app (tv' := v6) (w6 := w6) q1 q2 p3 htc p1 p2 HL1.out (Nat.lt_of_lt_of_le hpb HX1.out.size) x5 g1 g2)
                  clear p1 p2 p3 p4 p5 q1 q2 q3 q4 hb cf htc x5
                  generalize gN O s = k at *
                  go_wp2_with (at_builtin; refine wpList_append_view rfl (.tmp 33) (.tmp 41) 22 rfl w1.heap.size 3 i3 (.int .i64 0) 1 8 Tryz.underlying22 hi3 hz30 hz31 hz32 rfl (by decide) _ Tc.length (nCells Tc) rfl O5.out ⟨w4.heap.size, 0, none⟩ 1 1 [.int .i64 (k : Nat)] rfl rfl HN5.out (by simp [Value.oneCell']) (by decide) (by unfold maxLen; omega) (by omega) HS5.out ?_; intro v6 w6 g1 g2; have S6 := hide (HAP.out v6 w6 g1 g2); clear g1 g2)
                  go_roundg (hi2 - lo - (j + 1) + 1)
                  case measure => have := HG2.out; omega
                  case rel => exact ⟨j + 1, Tc ++ [k], L', P', R', by first | rfl | go_num | (congr 1; omega), S6, HRL', by omega, by omega⟩
          · have hj' : ¬ (j : Int) < ((hi2 - lo : Nat) : Int) := by omega
            have ej : lo + j = hi2 := by omega
            rw [ej] at SM
            have S7 : Hid (SpM n W c NX S F T base pb lv pv ov rv O w1 (i + 1) (gN S (c * n + gN T (i + 1))) _ Tc L P R wr) := ⟨SM.out.pr, SM.out.pt, SM.out.mks.congr (fun s _ => by rw [HHI.out]; exact mrk.begin.trans (HROW.out s).symm), SM.out.tc, SM.out.ow, SM.out.kp⟩
            clear ej
            have hiw : IntKind.i64.wrap ((i : Int) + 1) = ((i + 1 : Nat) : Int) := by simp [IntKind.wrap, IntKind.bits, IntKind.signed]; omega
            go_wp2
            go_roundg (T.length - (i + 1) + 1)
            case measure => have := HG.out; omega
            case rel => exact ⟨i + 1, Tc, L, P, R, by first | rfl | go_num | (congr 1; omega), S7, HRL, by omega, by omega⟩
    · as_aux_lemma =>
        have hi' : ¬ (i : Int) < (T.length : Int) := by omega
        obtain rfl : i = T.length := by omega
        obtain ⟨ta', tc', htv⟩ := OwnN.shape SM.out.ow
        subst htv
        have hMM : Hid (MkS n P O R (fun s => s < n ∧ ∃ j, j < T.length ∧ gN NX (s * W + c) = gN T j)) := SM.out.mks.congr (fun s _ => mrk.begin.symm)
        have HTC := hide SM.out.tc
        have HPT := hide SM.out.pt
        have hTl : Tc.length ≤ R0 := by have := HTC.out.le; have := HRL.out; omega
        have C0 : Hid (SpC n base pb lv pv ov rv L P O R w1 (.slice ta' Tc.length tc') Tc 0 rv O R wr) := ⟨SM.out.pr, (CtS.start SM.out.pt).dn (fun k => ⟨fun h => h.elim, fun ⟨j, hj, _⟩ => by omega⟩), SM.out.ow, SM.out.kp.mono (fun b hb => .inl hb), fun b hb => .inl hb, Nat.zero_le _⟩
        clear SM e0 e1 e2 ks kf kt
        go_wp2
        go_loopg [47] (Tc.length + 1) (fun g x wr => ∃ (i : Nat) (rv' : Value) (O' : List Nat) (R' : List Rm), x = .int .i64 (i : Nat) ∧ Hid (SpC n base pb lv pv ov rv L P O R w1 (.slice ta' Tc.length tc') Tc i rv' O' R' wr) ∧ Tc.length - i < g)
        case atStart => exact ⟨0, rv, O, R, rfl, C0, by omega⟩
        case round =>
          obtain ⟨i, rv', O', R', rfl, SC, hg2⟩ := hrel
          have HG2 := hide hg2
          clear hg2 C0
          have hil2 := SC.out.il
          by_cases hi2 : i < Tc.length
          · have hi2' : (i : Int) < (Tc.length : Int) := by omega
            obtain ⟨tg, rfl, ct⟩ := OwnN.gcell SC.out.ow hi2
            obtain ⟨a1, a2, a3⟩ := SC.out.at HTC.out hi2
            have HCU := hide (cut_any wr base pb lv pv ov rv' L P O' R' (gN Tc i) SC.out.pr SC.out.ct.pt a1 a3 hn)
            have HNX := hide (fun (rv2 : Value) (O2 : List Nat) (R2 : List Rm) (w' : World) q1 q2 q3 q4 => SC.out.cut (w' := w') HTC.out hi2 HL1.out (rv2 := rv2) (O2 := O2) (R2 := R2) q1 q2 q3 q4)
            obtain ⟨k, hk⟩ : ∃ k, k = gN Tc i := ⟨_, rfl⟩
            rw [← hk] at ct HCU HNX
            clear hk a1 a2 a3
            go_wp2_with (fail)
            refine HCU.out.mono ?_
            rintro e w4 ⟨rfl, rv2, O2, R2, q1, q2, q3, q4⟩
            have S5 := hide (HNX.out rv2 O2 R2 w4 q1 q2 q3 q4)
            clear HCU HNX q1 q2 q3 q4 ct
            go_wp2
            go_roundg (Tc.length - (i + 1) + 1)
            case measure => have := HG2.out; omega
            case rel => exact ⟨i + 1, rv2, O2, R2, by first | rfl | go_num | (congr 1; omega), S5, by omega⟩
          · have hi2' : ¬ (i : Int) < (Tc.length : Int) := by omega
            obtain rfl : i = Tc.length := by omega
            go_wp2
            refine bodyPost_end (v := .tuple #[]) (results_none rfl _ _ _) rfl ?_
            obtain ⟨f1, f2, f3⟩ := SC.out.ct.fin HPT.out hMM.out (fun k hk => ⟨fun ⟨j, hj, e⟩ => ((HTC.out.1 k).1 (by rw [← e, gN_lt hj]; exact List.getElem_mem hj)).2, fun e => by
              obtain ⟨j, hj, e2⟩ := List.mem_iff_getElem.1 ((HTC.out.1 k).2 ⟨hk, e⟩)
              exact ⟨j, hj, by rw [gN_lt hj]; exact e2⟩⟩)
            have hrr : R.length = R0 := HRL.out
            refine ⟨rfl, rv', L, P, O', R', SC.out.pr, SC.out.ct.pt, f1, ?_, fun s hs => ?_, fun s hs t ht => ?_, ?_, fun b hb => ?_⟩
            · rw [hR0.out, ← hrr]; exact SC.out.ct.ml
            · rw [hR0.out, ← hrr]; exact f2 s hs
            · rw [f3 s hs t ht]
              exact ⟨fun ⟨x1, x2⟩ => ⟨x1, ⟨fun y => (x2.1 ⟨hs, y⟩).2, fun y => (x2.2 ⟨ht, y⟩).2⟩⟩, fun ⟨x1, x2⟩ => ⟨x1, ⟨fun y => ⟨ht, x2.1 y.2⟩, fun y => ⟨hs, x2.2 y.2⟩⟩⟩⟩
            · exact (Kept.of_below HX1.out).trans SC.out.kp
            · rcases SC.out.rb b hb with h9 | h9
              · exact .inl h9
              · exact .inr (Nat.le_trans HX1.out.size h9)
end Go.Proofs.YtdgoilkgplnhfaaGreat
