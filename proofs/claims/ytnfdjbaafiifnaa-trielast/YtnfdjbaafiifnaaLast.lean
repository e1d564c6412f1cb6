/-
  TrieLast, walked: whatever it is given, it answers true; nothing that was there has turned. Condition: numbers are of the machine's kind, the list takes no more than a process can hold.
-/
import Derived.Test.YtnfdjbaafiifnaaLs0
import Derived.Test.YtnfdjbaafiifnaaMHal
import Derived.Test.YtnfdjbaafiifnaaTb
import Derived.Test.YtnfdjbaafiifnaaNl
namespace Go.Proofs.Ytnfdjbaafiifnaa
open Go.RowKit Go.Lib

set_option maxRecDepth 100000 in
set_option maxHeartbeats 8000000 in
theorem trieLast_any (first nn : Int) (ao : Option Addr) (cap : Nat) (L : List RZ) (w : World) (hfi : Fit first) (hnn : Fit nn) (hl : L.length ≤ 140737488351232) (hf : ∀ r ∈ L, FitR r) (hat : RwAt w ao L) :
    Calls Try.prog 5 #[.int .i64 first, .slice ao L.length cap, .int .i64 nn] w fun e w' => e = .returned (.bool true) ∧ Below w.heap.size w w' := by
  by_cases hlen : L.length ≤ 33554431
  · have hp1 := fun w => pick_any first 65536 hfi (by decide) (by decide) w
    have HLB := hide (lab_pk first)
    obtain ⟨s0, hs0⟩ : ∃ s0, Hid (s0 = pkZ first 65536) := ⟨_, rfl⟩
    rw [← hs0.out] at HLB
    simp only [← hs0.out] at hp1
    have HP1 := hide hp1
    have hp2 := fun w => pick_any nn 4294967296 hnn (by decide) (by decide) w
    obtain ⟨s1, hs1⟩ : ∃ s1, Hid (s1 = pkZ nn 4294967296) := ⟨_, rfl⟩
    have hs1l : s1 ≤ 4294967295 := by rw [hs1.out]; have := pkZ_lt nn (n := 4294967296) (by decide); omega
    simp only [← hs1.out] at hp2
    have HP2 := hide hp2
    have HAT := hide hat
    have HF := hide hf
    clear hp1 hp2 hat hf
    go_enter Try.func5, Try.ntmps5
    go_wp2_with (fail)
    refine (awake_any _).mono ?_
    rintro e w1 ⟨rfl, x1⟩
    have X1 := hide x1
    clear x1
    go_wp2_with (fail)
    refine (HP1.out _).mono ?_
    rintro e w1' ⟨rfl, hw⟩
    have hw := hw.symm
    subst hw
    go_wp2_with (fail)
    refine (newL_any _ HLB.out _).mono ?_
    rintro e w2 ⟨⟨b1, rfl, t2, hb1⟩, x2⟩
    have T2 := hide t2
    have X2 := hide (bt X1.out x2 (Nat.le_refl _))
    have HB1 : Hid (w.heap.size ≤ b1) := Nat.le_trans X1.out.size hb1
    clear x2 t2 hb1
    go_wp2_with (fail)
    refine (fit_any ao cap L _ hlen HF.out (HAT.out.below X2.out)).mono ?_
    rintro e w4 ⟨⟨va, rfl, a4⟩, x4⟩
    have T4 := hide (T2.out.below x4)
    have A4 := hide (own_mono a4 X2.out.size)
    have X4 := hide (bt X2.out x4 (Nat.le_refl _))
    have HAL : Hid (∀ r ∈ L.map ftZ, Al r ∧ Lab r.2) := fun r hr => by
      obtain ⟨z, _, rfl⟩ := List.mem_map.1 hr
      exact ⟨ft_al z, ft_lab z⟩
    have HLN : Hid ((L.map ftZ).length = L.length) := by unfold Hid; simp
    obtain ⟨aA, cA, rfl, hpA⟩ := own_shape a4
    have HPA := hide hpA
    clear hpA
    clear x4 a4
    generalize L.map ftZ = A at *
    rw [HLN.out]
    rw [HLN.out] at A4
    have HG0 := hide (Good.leaf HLB.out)
    go_wp2_with (fail)
    refine (HP2.out _).mono ?_
    rintro e w5 ⟨rfl, hw⟩
    subst hw
    rename World => w5
    have Q5 : Hid ((w5.alloc (.cells #[.int .i64 0, .int .i64 4294967295, .int .i64 (s1 : Nat)] 3)).ownsRow w.heap.size 3 1 (.slice (some ⟨w5.heap.size, 0, none⟩) 3 3) 3 (zCells [0, 4294967295, ((s1 : Nat) : Int)])) := World.ownsRow_lit (base := w.heap.size) (e := 3) (size := 1) w5 #[.int .i64 0, .int .i64 4294967295, .int .i64 (s1 : Nat)] 3 X4.out.size (by decide) rfl
    have hx5 : Below w5.heap.size w5 (w5.alloc (.cells #[.int .i64 0, .int .i64 4294967295, .int .i64 (s1 : Nat)] 3)) := al (Below.refl _ _) _
    have T5 := hide (T4.out.below hx5)
    have A5 := hide (own_below A4.out hx5)
    have X5 := hide (bt X4.out hx5 (Nat.le_refl _))
    clear hx5 T4 A4 X4
    obtain ⟨i3, hj, hy0, hy1, hy2⟩ := info_parts Try.info3
    go_wp2
    go_loopw [12, 13] (fun o x wr => ∃ k : Nat, k ≤ L.length ∧ x = .int .i64 k ∧ ∃ Q : List Int, Hid (Q.length = 3 + 4 * k) ∧ Hid (∀ q ∈ Q, 0 ≤ q ∧ q ≤ 4294967295) ∧ Hid (wr.ownsRow w.heap.size 3 1 o Q.length (zCells Q)) ∧ Hid (TrieAt wr (putAll (.leaf (s0 : Nat)) (A.take k)) (.pointer (some ⟨b1, 0, none⟩))) ∧ Hid (wr.ownsRow w.heap.size 56 3 (.slice aA L.length cA) A.length (rwCells A)) ∧ Hid (Below w.heap.size w wr)) (fun _ x _ => L.length - (RowKit.intOf x).toNat)
    case atStart => exact ⟨0, Nat.zero_le _, rfl, [0, 4294967295, ((s1 : Nat) : Int)], rfl, fun q hq => by simp at hq; omega, Q5, T5, by rw [HLN.out]; exact A5, X5⟩
    case round =>
      obtain ⟨k, hk, rfl, Q, HQL, HQB, HQ, T, AA, X⟩ := hrel
      rename World => wr
      by_cases hlt : k < L.length
      · as_aux_lemma =>
          have hlt' : (k : Int) < (L.length : Int) := by omega
          have hkA : k < A.length := by rw [HLN.out]; exact hlt
          obtain ⟨ga, rfl⟩ := HPA.out (by omega)
          obtain ⟨c1, c2, c3⟩ := own_cell3 AA.out k hkA
          have HTK : Hid (A.take (k + 1) = A.take k ++ [A[k]]) := List.take_succ_eq_append_getElem hkA
          have hal := HAL.out _ (List.getElem_mem hkA)
          have HNX := hide (fun W w' (x : Below wr.heap.size wr W) (hk : Kept (fun z => z = b1) W w') (o : Value) (hq : wr.ownsRow w.heap.size 3 1 o Q.length (zCells Q)) => (show w'.ownsRow w.heap.size 3 1 o Q.length (zCells Q) ∧ w'.ownsRow w.heap.size 56 3 (.slice (some ⟨ga, 0, none⟩) L.length cA) A.length (rwCells A) ∧ Below w.heap.size w w' from ⟨own_kept73 (own_below hq x) (by decide) (T.out.below x) hk, own_kept73 (own_below AA.out x) (by decide) (T.out.below x) hk, (bt X.out x (Nat.le_refl _)).trans (hk.below (Nat.le_trans X.out.size x.size) (fun z hz => by rw [hz]; exact HB1.out))⟩))
          have HCE := hide (fun (w' : World) (h : w'.ownsRow w.heap.size 56 3 (.slice (some ⟨ga, 0, none⟩) L.length cA) A.length (rwCells A)) => own_cell3 h k hkA)
          have HPU := hide (fun W (x : Below wr.heap.size wr W) => putR_any A[k] W hal.1 hal.2 (T.out.below x))
          have HR0 := hide (rangeR_any A[k] hal.1)
          have HLO := hide hal.1
          generalize A[k] = r at *
          clear hal
          obtain ⟨lo, HLo⟩ : ∃ lo, Hid (lo = r.1.1) := ⟨_, rfl⟩
          obtain ⟨hi, HHi⟩ : ∃ hi, Hid (hi = r.1.1 + 2 ^ (32 - r.1.2) - 1) := ⟨_, rfl⟩
          have HRG : Hid (∀ w, Calls Try.prog 19 #[.agg #[.int .i64 (r.1.1 : Nat), .int .i64 (r.1.2 : Nat)]] w fun e w' => e = .returned (.tuple #[.agg #[.int .i64 (lo : Nat), .int .i64 (hi : Nat)], .int .i64 0]) ∧ Below w.heap.size w w') := fun w => by rw [HLo.out, HHi.out]; exact HR0.out w
          go_wp2
          go_region_held3 (fun w' => w'.cell? ⟨ga, k * 3, none⟩ = some (.int .i64 (r.1.1 : Nat)) ∧ w'.cell? ⟨ga, k * 3 + 1, none⟩ = some (.int .i64 (r.1.2 : Nat)) ∧ w'.cell? ⟨ga, k * 3 + 2, none⟩ = some (.int .i64 r.2)) (first | assumption | (simp [go_sem, *]; done))
            (first | (go_at_call 18; refine (HPU.out _ (Below.refl _ _).drew).mono ?_; rintro e w5 ⟨rfl, t5, k5⟩; have T5 := hide t5; obtain ⟨q5, a5, x5⟩ := HNX.out _ _ (Below.refl _ _).drew k5 _ HQ.out; have Q5 := hide q5; have A5 := hide a5; have X5 := hide x5; obtain ⟨d1, d2, d3⟩ := HCE.out _ a5; clear t5 k5 q5 a5 x5))
          clear c1 c2 c3
          go_wp2_with (fail)
          refine (HRG.out _).mono ?_
          rintro e w6 ⟨rfl, x6⟩
          have hhi : hi ≤ 4294967295 := by have := HLO.out.2.1; have := HHi.out; omega
          have hlo : lo ≤ hi := by have := Nat.pow_pos (n := 32 - r.1.2) (show 0 < 2 by decide); have := HHi.out; have := HLo.out; omega
          have x6' := al x6 (.cells #[.int .i64 (lo : Nat), .int .i64 (hi : Nat)] 58)
          have T6 := hide (T5.out.below x6')
          have A6 := hide (own_below A5.out x6')
          have Q6 := hide (own_below Q5.out x6')
          have X6 := hide (bt X5.out x6' (Nat.le_refl _))
          clear x6 x6' d1 d2 d3
          have x7 : Below (w6.alloc (.cells #[.int .i64 (lo : Int), .int .i64 (hi : Int)] 58)).heap.size (w6.alloc (.cells #[.int .i64 (lo : Int), .int .i64 (hi : Int)] 58)) ((w6.alloc (.cells #[.int .i64 (lo : Int), .int .i64 (hi : Int)] 58)).alloc (.cells #[.int .i64 (lo : Int), .int .i64 (hi : Int), .int .i64 (if (lo : Int) - 1 < 0 then 0 else (lo : Int) - 1), .int .i64 (if 4294967295 < (hi : Int) + 1 then 4294967295 else (hi : Int) + 1)] 3)) := al (Below.refl _ _) _
          have Q7 := hide (own_below Q6.out x7)
          have T7 := hide (T6.out.below x7)
          have A7 := hide (own_below A6.out x7)
          have X7 := hide (bt X6.out x7 (Nat.le_refl _))
          have HN7 : Hid (∀ j v, ([.int .i64 (lo : Int), .int .i64 (hi : Int), .int .i64 (if (lo : Int) - 1 < 0 then 0 else (lo : Int) - 1), .int .i64 (if 4294967295 < (hi : Int) + 1 then 4294967295 else (hi : Int) + 1)] : List Value)[j]? = some v → ((w6.alloc (.cells #[.int .i64 (lo : Int), .int .i64 (hi : Int)] 58)).alloc (.cells #[.int .i64 (lo : Int), .int .i64 (hi : Int), .int .i64 (if (lo : Int) - 1 < 0 then 0 else (lo : Int) - 1), .int .i64 (if 4294967295 < (hi : Int) + 1 then 4294967295 else (hi : Int) + 1)] 3)).cell? ((⟨w6.heap.size + 1, 0, none⟩ : Addr).add j) = some v) := by
            intro j v hv
            match j, hv with
            | 0, hv => simp at hv; subst hv; simp [Addr.add]
            | 1, hv => simp at hv; subst hv; simp [Addr.add]
            | 2, hv => simp at hv; subst hv; simp [Addr.add]
            | 3, hv => simp at hv; subst hv; simp [Addr.add]
          clear x7 T6 A6 Q6 X6
          go_wp2_with (at_builtin; go_loud (refine wpList_append_view rfl (.tmp 86) (.tmp 99) 43 rfl w.heap.size 3 i3 (.int .i64 0) 1 8 Try.underlying43 hj hy0 hy1 hy2 rfl (by decide) _ Q.length (zCells Q) rfl Q7.out ⟨w6.heap.size + 1, 0, none⟩ 4 4 [.int .i64 (lo : Int), .int .i64 (hi : Int), .int .i64 (if (lo : Int) - 1 < 0 then 0 else (lo : Int) - 1), .int .i64 (if 4294967295 < (hi : Int) + 1 then 4294967295 else (hi : Int) + 1)] rfl rfl HN7.out (by simp [Value.oneCell']) (by decide) (by have := HQL.out; unfold maxLen; omega) (by have := HQL.out; omega) X7.out.size ?_; intro v8 w8 h1 h2; have Q8 := hide h1; have K8 := appKept h2 Q7.out; obtain ⟨F8, kF, hF⟩ := app_kept h2; have T8 := hide (T7.out.kept kF (fun k hk => by obtain ⟨cs, h5⟩ := own_ty Q7.out k (hF k hk); exact ⟨cs, 3, _, h5, by decide, by decide⟩)); have A8 := hide (own_kept A7.out kF (fun k h3 h4 => own_ne Q7.out A7.out (by decide) k (hF k h4) h3)); have X8 := hide (X7.out.trans (K8.below X7.out.size (fun _ h => h))); clear h1 h2 K8 kF hF))
          go_roundw
          case rel => exact ⟨k + 1, by omega, by go_num, Q ++ [(lo : Int), (hi : Int), (if (lo : Int) - 1 < 0 then 0 else (lo : Int) - 1), (if 4294967295 < (hi : Int) + 1 then 4294967295 else (hi : Int) + 1)], by unfold Hid; rw [List.length_append, HQL.out]; simp; omega, fun q hq => by
            rcases List.mem_append.1 hq with h | h
            · exact HQB.out q h
            · simp only [List.mem_cons, List.not_mem_nil, or_false] at h
              rcases h with rfl | rfl | rfl | rfl
              · omega
              · omega
              · split <;> omega
              · split <;> omega, by unfold Hid zCells; rw [List.length_append, List.map_append]; exact Q8.out, by unfold Hid; rw [HTK.out, putAll_snoc]; exact T8.out, A8, X8⟩
          case measure => simp [RowKit.intOf]; omega
      · have hkl : k = L.length := by omega
        subst hkl
        rw [show A.take L.length = A by rw [← HLN.out, List.take_length]] at T
        have HGD : Hid (Good (putAll (.leaf (s0 : Nat)) A)) := HG0.out.putAll HAL.out
        have HAT2 : Hid (∀ y, y < 4294967296 → (putAll (.leaf (s0 : Nat)) A).at y = lastZ A (s0 : Nat) y) := fun y hy => putAll_at A _ y (fun r hr => (HAL.out r hr).1) hy
        generalize putAll (.leaf (s0 : Nat)) A = tt at *
        have HLA := hide (fun (y : Nat) (W : World) (x : Below wr.heap.size wr W) => lastP_any w.heap.size cA aA A (s0 : Nat) y W (by rw [HLN.out]; exact hlen) (fun r hr => (HAL.out r hr).1) (by rw [HLN.out]; rw [HLN.out] at AA; exact own_below AA.out x))
        rw [HLN.out] at HLA
        obtain ⟨aQ, cQ, rfl, hpQ⟩ := own_shape HQ.out
        have HPQ := hide hpQ
        clear HPA T5 A5 X5 hpQ Q5
        go_wp2
        go_loopw [17] (fun x wq => ∃ m : Nat, m ≤ Q.length ∧ x = .int .i64 m ∧ Hid (Below wr.heap.size wr wq)) (fun x _ => Q.length - (RowKit.intOf x).toNat)
        case atStart => exact ⟨0, Nat.zero_le _, rfl, Below.refl _ _⟩
        case round =>
          obtain ⟨m, hm, rfl, Y⟩ := hrel
          rename World => wq
          by_cases hmlt : m < Q.length
          · as_aux_lemma =>
              have hmlt' : (m : Int) < (Q.length : Int) := by omega
              have hQl : Q.length ≤ 140737488351232 := by have := HQL.out; omega
              obtain ⟨gq, rfl⟩ := HPQ.out (by omega)
              have HC := hide (fun (W : World) (x : Below wr.heap.size wr W) => (show W.cell? ⟨gq, m, none⟩ = some (.int .i64 (Q[m])) by rw [World.ownsRow.cellAt (own_below HQ.out x) m (by omega)]; simp [zCells, hmlt]))
              obtain ⟨y, hy⟩ : ∃ y : Nat, Hid (Q[m] = (y : Int)) := ⟨(Q[m]).toNat, by have := HQB.out _ (List.getElem_mem hmlt); unfold Hid; omega⟩
              have hyl : y ≤ 4294967295 := by have := HQB.out _ (List.getElem_mem hmlt); have := hy.out; omega
              rw [hy.out] at HC
              have c1 := HC.out _ Y.out
              have hfi : ∀ W, Below wr.heap.size wr W → Calls Try.prog 20 #[.pointer (some ⟨b1, 0, none⟩), .int .i64 (y : Int)] W fun e w' => e = .returned (.tuple #[.int .i64 (lastZ A (s0 : Nat) y), .int .i64 0]) ∧ Below W.heap.size W w' := fun W x => (findT_any (y : Int) W (T.out.below x)).mono fun e w' ⟨h1, _, h3⟩ => ⟨by rw [h1 (by omega), Int.toNat_natCast, HAT2.out y (by omega)], h3⟩
              have HFI := hide hfi
              have HLy := hide (HLA.out y)
              generalize lastZ A (s0 : Nat) y = z at *
              clear hfi
              go_wp2_with (fail)
              refine (HFI.out _ Y.out).mono ?_
              rintro e w6 ⟨rfl, x6⟩
              have Y6 := hide (bt Y.out x6 (Nat.le_refl _))
              have c2 := HC.out _ Y6.out
              clear x6 c1
              go_wp2_with (fail)
              refine (HLy.out _ Y6.out).mono ?_
              rintro e w7 ⟨rfl, x7⟩
              have Y7 := hide (bt Y6.out x7 (Nat.le_refl _))
              clear x7 c2
              go_wp2
              go_roundw
              case rel => exact ⟨m + 1, by omega, by go_num, Y7⟩
              case measure => simp [RowKit.intOf]; omega
          · have hmlt' : ¬ (m : Int) < (Q.length : Int) := by omega
            have T8 := hide (T.out.below Y.out)
            have X8 := hide (bt X.out Y.out (Nat.le_refl _))
            have HLB2 := hide (fun (y : Nat) (W : World) (x : Below wq.heap.size wq W) => HLA.out y W (bt Y.out x (Nat.le_refl _)))
            clear HLA HPQ HQ T AA X Y
            go_wp2_with (fail)
            refine (rows_any _ HGD.out.dep T8.out).mono ?_
            rintro e w9 ⟨⟨vr, rfl, r9⟩, x9⟩
            have X9 := hide (bt X8.out x9 (Nat.le_refl _))
            have R9 := hide (own_mono r9 X8.out.size)
            have HLC := hide (fun (y : Nat) (W : World) (x : Below w9.heap.size w9 W) => HLB2.out y W (bt x9 x (Nat.le_refl _)))
            have HRW := hide HGD.out.rows
            have hRl := HGD.out.len
            have HRA : Hid (∀ r ∈ tt.rows 0 0, ∀ y, inP r y → y < 4294967296 → lastZ A (s0 : Nat) y = r.2) := fun r hr y hy hy2 => by
              have := rows_at tt 0 0 (by have := HGD.out.dep; omega) (by decide) (by decide) r hr y hy
              rw [dn_zero y hy2, HAT2.out y hy2] at this
              exact this
            have HCH : Hid (ChR 0 (tt.rows 0 0) 4294967296) := by
              have := rows_chain tt 0 0 (by have := HGD.out.dep; omega)
              show ChR 0 (tt.rows 0 0) 4294967296
              simpa using this
            have HHV := hide (fun i r s => rows_halves tt 0 0 HGD.out.nf (by have := HGD.out.dep; omega) (by decide) i r s)
            obtain ⟨aR, cR, rfl, hpR⟩ := own_shape r9
            have HPR := hide hpR
            clear r9 x9 hpR HLB2 T8 X8
            generalize tt.rows 0 0 = R at *
            go_wp2
            go_loopw [21, 22] (fun nv x wz => ∃ m : Nat, m ≤ R.length ∧ x = .int .i64 m ∧ ∃ nx : Nat, nv = .int .i64 nx ∧ Hid (ChR nx (R.drop m) 4294967296) ∧ Hid (Below w9.heap.size w9 wz)) (fun _ x _ => R.length - (RowKit.intOf x).toNat)
            case atStart => exact ⟨0, Nat.zero_le _, rfl, 0, rfl, HCH, Below.refl _ _⟩
            case round =>
              obtain ⟨m3, hm3, rfl, nx, rfl, HC3, Z⟩ := hrel
              rename World => wz
              by_cases h3 : m3 < R.length
              · have h3' : (m3 : Int) < (R.length : Int) := by omega
                obtain ⟨gr, rfl⟩ := HPR.out (by omega)
                have HCL := hide (fun (W : World) (x : Below w9.heap.size w9 W) (i : Nat) (hi : i < R.length) => own_cell3 (own_below R9.out x) i hi)
                have hchd : ChR nx (R[m3] :: R.drop (m3 + 1)) 4294967296 := by rw [← List.drop_eq_getElem_cons h3]; exact HC3.out
                obtain ⟨hnx, hch4⟩ := hchd
                have hal := HRW.out _ (List.getElem_mem h3)
                have hpw := Nat.pow_pos (n := 32 - R[m3].1.2) (show 0 < 2 by decide)
                have hlo := HRA.out _ (List.getElem_mem h3) R[m3].1.1 ⟨Nat.le_refl _, by omega⟩ (by have := hal.1.2.1; omega)
                have hhi := HRA.out _ (List.getElem_mem h3) (R[m3].1.1 + 2 ^ (32 - R[m3].1.2) - 1) ⟨by omega, by omega⟩ (by have := hal.1.2.1; omega)
                have HR0 := hide (rangeR_any R[m3] hal.1)
                obtain ⟨hi, HHi⟩ : ∃ hi, Hid (hi = R[m3].1.1 + 2 ^ (32 - R[m3].1.2) - 1) := ⟨R[m3].1.1 + 2 ^ (32 - R[m3].1.2) - 1, show _ = _ from rfl⟩
                rw [← HHi.out] at hhi HR0
                have hhil : hi ≤ 4294967295 := by have := hal.1.2.1; have := HHi.out; omega
                have HC4 : Hid (ChR (hi + 1) (R.drop (m3 + 1)) 4294967296) := by
                  unfold Hid
                  rw [show hi + 1 = nx + 2 ^ (32 - R[m3].1.2) by have := HHi.out; omega]
                  exact hch4
                have L1 := hide (fun (W : World) (x : Below w9.heap.size w9 W) => HLC.out R[m3].1.1 W x)
                have L2 := hide (fun (W : World) (x : Below w9.heap.size w9 W) => HLC.out hi W x)
                rw [hlo] at L1
                rw [hhi] at L2
                rw [hnx] at L1 HR0
                have hC := hide (fun (W : World) (x : Below w9.heap.size w9 W) => HCL.out W x m3 h3)
                rw [hnx] at hC
                have hprev : ∀ i, m3 = i + 1 → ∃ s : Rw, Hid (∀ W, Below w9.heap.size w9 W → W.cell? ⟨gr, i * 3, none⟩ = some (.int .i64 (s.1.1 : Nat)) ∧ W.cell? ⟨gr, i * 3 + 1, none⟩ = some (.int .i64 (s.1.2 : Nat)) ∧ W.cell? ⟨gr, i * 3 + 2, none⟩ = some (.int .i64 s.2)) ∧ Hid (s.2 = R[m3].2 → s.1.2 = R[m3].1.2 → 0 < R[m3].1.2 → s.1.1 % 2 ^ (32 - (R[m3].1.2 - 1)) = 0 → False) := fun i hi => by
                  have hil : i < R.length := by omega
                  refine ⟨R[i], fun W x => HCL.out W x i hil, fun e1 e2 e3 e4 => ?_⟩
                  exact HHV.out i R[i] R[m3] (List.getElem?_eq_getElem hil) (by subst hi; exact List.getElem?_eq_getElem h3) e1 e2 (by omega) (by have := hal.1.1; omega) (by rw [e2]; exact e4)
                have HPV := hide hprev
                have hb32 : R[m3].1.2 ≤ 32 := hal.1.1
                generalize hrr : R[m3] = r at *
                obtain ⟨c1, c2, c3⟩ := hC.out _ Z.out
                clear hrr hlo hhi hnx hch4 hal hpw hprev HCL HC3
                go_wp2_with (fail)
                refine (HR0.out _).mono ?_
                rintro e w10 ⟨rfl, x10⟩
                have Z10 := hide (al (bt Z.out x10 (Nat.le_refl _)) (.cells #[.int .i64 (nx : Nat), .int .i64 (hi : Nat)] 58))
                have hsp := heap_alloc_new w10 (.cells #[.int .i64 (nx : Nat), .int .i64 (hi : Nat)] 58)
                obtain ⟨d1, d2, d3⟩ := hC.out _ Z10.out
                clear x10 c1 c2 c3
                go_wp2_with (fail)
                generalize w10.alloc (.cells #[.int .i64 (nx : Nat), .int .i64 (hi : Nat)] 58) = W at *
                have hsl := lt_of_block hsp
                generalize w10.heap.size = sp at *
                have f1 : W.cell? ⟨sp, 0, none⟩ = some (.int .i64 (nx : Nat)) := by rw [cell_of_row W sp 0 _ _ _ hsp]; rfl
                have f2 : W.cell? ⟨sp, 1, none⟩ = some (.int .i64 (hi : Nat)) := by rw [cell_of_row W sp 1 _ _ _ hsp]; rfl
                have hgl : gr < W.heap.size := Nat.lt_of_lt_of_le (World.ownsRow.lt R9.out gr rfl).2 Z10.out.size
                have HD : Hid (Below W.heap.size W W.drew) := (Below.refl _ _).drew
                have HSP := hide hsp
                clear hsp
                refine wp_region_quiet (C := fun w' => Below W.heap.size W w') (by kernel_rfl) (by kernel_rfl) HD.out ?_
                refine QW.out (l := _ :: _) ?_
                iterate 18 (refine QW.take (by rfl) ?_; apply Exists.intro; refine ⟨fun w' hw' => ?_, ?_⟩; (· (have g1 := (hw'.cell (p := ⟨sp, 0, none⟩) hsl).trans f1; have g2 := (hw'.cell (p := ⟨sp, 1, none⟩) hsl).trans f2; have g3 := (hw'.cell (p := ⟨gr, m3 * 3 + 2, none⟩) hgl).trans d3; go_simp; first | done | rfl)); try simp only [Act.put, List.setIfInBounds_toArray, List.set_cons_zero, List.set_cons_succ])
                iterate 1 (refine QW.take (by rfl) ?_; apply Exists.intro; refine ⟨fun w' hw' => ?_, ?_⟩; (· (have g1 := (hw'.cell (p := ⟨sp, 0, none⟩) hsl).trans f1; have g2 := (hw'.cell (p := ⟨sp, 1, none⟩) hsl).trans f2; have g3 := (hw'.cell (p := ⟨gr, m3 * 3 + 2, none⟩) hgl).trans d3; go_simp; (refine (L1.out _ (bt Z10.out hw' (Nat.le_refl _))).mono ?_; rintro e w2 ⟨rfl, x2⟩; exact ⟨rfl, hw'.trans (x2.mono hw'.size)⟩))); try simp only [Act.put, List.setIfInBounds_toArray, List.set_cons_zero, List.set_cons_succ])
                iterate 12 (refine QW.take (by rfl) ?_; apply Exists.intro; refine ⟨fun w' hw' => ?_, ?_⟩; (· (have g1 := (hw'.cell (p := ⟨sp, 0, none⟩) hsl).trans f1; have g2 := (hw'.cell (p := ⟨sp, 1, none⟩) hsl).trans f2; have g3 := (hw'.cell (p := ⟨gr, m3 * 3 + 2, none⟩) hgl).trans d3; go_simp; first | done | rfl)); try simp only [Act.put, List.setIfInBounds_toArray, List.set_cons_zero, List.set_cons_succ])
                iterate 1 (refine QW.take (by rfl) ?_; apply Exists.intro; refine ⟨fun w' hw' => ?_, ?_⟩; (· (have g1 := (hw'.cell (p := ⟨sp, 0, none⟩) hsl).trans f1; have g2 := (hw'.cell (p := ⟨sp, 1, none⟩) hsl).trans f2; have g3 := (hw'.cell (p := ⟨gr, m3 * 3 + 2, none⟩) hgl).trans d3; go_simp; (refine (L2.out _ (bt Z10.out hw' (Nat.le_refl _))).mono ?_; rintro e w2 ⟨rfl, x2⟩; exact ⟨rfl, hw'.trans (x2.mono hw'.size)⟩))); try simp only [Act.put, List.setIfInBounds_toArray, List.set_cons_zero, List.set_cons_succ])
                iterate 2 (refine QW.take (by rfl) ?_; apply Exists.intro; refine ⟨fun w' hw' => ?_, ?_⟩; (· (have g1 := (hw'.cell (p := ⟨sp, 0, none⟩) hsl).trans f1; have g2 := (hw'.cell (p := ⟨sp, 1, none⟩) hsl).trans f2; have g3 := (hw'.cell (p := ⟨gr, m3 * 3 + 2, none⟩) hgl).trans d3; go_simp; first | done | rfl)); try simp only [Act.put, List.setIfInBounds_toArray, List.set_cons_zero, List.set_cons_succ])
                refine QW.nil ?_
                intro w11 x11
                have Z11 := hide (bt Z10.out x11 (Nat.le_refl _))
                have HS11 := hide ((x11.block sp hsl).trans HSP.out)
                clear d1 d2 d3 f1 f2 x11 hsl hgl L1 L2 Z10
                go_wp2_with (fail)
                obtain ⟨⟨ra, rk⟩, rl⟩ := r
                simp only at hC HPV HC4 hb32
                obtain ⟨d1, d2, d3⟩ := hC.out _ Z11.out
                have f1 : w11.cell? ⟨sp, 0, none⟩ = some (.int .i64 (nx : Nat)) := by rw [cell_of_row w11 sp 0 _ _ _ HS11.out]; rfl
                have f2 : w11.cell? ⟨sp, 1, none⟩ = some (.int .i64 (hi : Nat)) := by rw [cell_of_row w11 sp 1 _ _ _ HS11.out]; rfl
                have hsl := lt_of_block HS11.out
                by_cases hz : m3 = 0
                · have hz' : ¬ (0 : Int) < (m3 : Int) := by omega
                  have hzz : ¬ 0 < m3 := by omega
                  clear hz
                  go_quiet (fail)
                  go_wp2
                  go_roundw
                  case rel => exact ⟨m3 + 1, by omega, by go_num, hi + 1, by go_num, HC4, bt Z11.out (below_drewN _ _ _) (Nat.le_refl _)⟩
                  case measure => simp [RowKit.intOf]; omega
                · obtain ⟨i, him⟩ : ∃ i, Hid (m3 = i + 1) := ⟨m3 - 1, show m3 = m3 - 1 + 1 by omega⟩
                  obtain ⟨⟨⟨sa, sk⟩, sl⟩, HS, HNO⟩ := HPV.out i him.out
                  simp only at HS HNO
                  obtain ⟨g1, g2, g3⟩ := HS.out _ Z11.out
                  have hz' : (0 : Int) < (m3 : Int) := by omega
                  have hzz : 0 < m3 := by omega
                  have hw3 : (m3 : Int) - 1 = (i : Int) := by have := him.out; omega
                  have hil : (i : Int) < (R.length : Int) := by have := him.out; omega
                  have hi0 : (0 : Int) ≤ (i : Int) := by omega
                  clear hz
                  have hw5 : IntKind.i64.wrap (i : Int) = (i : Int) := by have := him.out; simp [IntKind.wrap, IntKind.bits, IntKind.signed]; omega
                  have hgl : gr < w11.heap.size := Nat.lt_of_lt_of_le (World.ownsRow.lt R9.out gr rfl).2 Z11.out.size
                  have HD : Hid (Below w11.heap.size w11 w11.drew) := (Below.refl _ _).drew
                  have hk31 : m3 + 1 ≤ R.length := by omega
                  by_cases e1 : rl = sl
                  · subst e1
                    by_cases e2 : rk = sk
                    · subst e2
                      by_cases e3 : 0 < rk
                      · as_aux_lemma =>
                          have e3b : decide ((0 : Int) < (rk : Int)) = true := decide_eq_true (by omega)
                          refine wp_region_quiet (C := fun w' => Below w11.heap.size w11 w') (by kernel_rfl) (by kernel_rfl) HD.out ?_
                          refine QW.out (l := _ :: _) ?_
                          iterate 41 (refine QW.take (by rfl) ?_; apply Exists.intro; refine ⟨fun w' hw' => ?_, ?_⟩; (· (have k1 := (hw'.cell (p := ⟨gr, m3 * 3 + 1, none⟩) hgl).trans d2; have k2 := (hw'.cell (p := ⟨gr, m3 * 3 + 2, none⟩) hgl).trans d3; have k3 := (hw'.cell (p := ⟨gr, i * 3 + 1, none⟩) hgl).trans g2; have k4 := (hw'.cell (p := ⟨gr, i * 3 + 2, none⟩) hgl).trans g3; go_simp; first | done | ((try simp only [hw3, hw5, e3b]); first | done | rfl))); try simp only [Act.put, List.setIfInBounds_toArray, List.set_cons_zero, List.set_cons_succ])
                          refine QW.nil ?_
                          intro w12 x12
                          have Z12 := hide (bt Z11.out x12 (Nat.le_refl _))
                          have q2 := (x12.cell (p := ⟨sp, 1, none⟩) hsl).trans f2
                          have hnp : ¬ Pfx (sa : Int) ((rk : Int) - 1) := fun h => HNO.out rfl rfl e3 (by
                            have := h.2.2.2.2
                            rw [show ((rk : Int) - 1).toNat = rk - 1 by omega, Int.toNat_natCast] at this
                            exact this)
                          have hrg := range_any (sa : Int) ((rk : Int) - 1)
                          rw [show rngL (sa : Int) ((rk : Int) - 1) = 0 from if_neg hnp, show rngH (sa : Int) ((rk : Int) - 1) = 0 from if_neg hnp, show pprE (sa : Int) ((rk : Int) - 1) = 1 from if_neg hnp] at hrg
                          have HRG := hide hrg
                          clear hrg hnp
                          have hwk : IntKind.i64.wrap ((rk : Int) - 1) = (rk : Int) - 1 := by simp [IntKind.wrap, IntKind.bits, IntKind.signed]; omega
                          have p1 := (x12.cell (p := ⟨gr, i * 3, none⟩) hgl).trans g1
                          have p2 := (x12.cell (p := ⟨gr, m3 * 3 + 1, none⟩) hgl).trans d2
                          clear HS HNO HPV
                          go_wp2_with (fail)
                          have hgl2 : gr < w12.heap.size := Nat.lt_of_lt_of_le hgl x12.size
                          have hsl2 : sp < w12.heap.size := Nat.lt_of_lt_of_le hsl x12.size
                          have p7 := ((al (Below.refl _ w12) (.cells #[.int .i64 0, .int .i64 0] 58)).cell (p := ⟨gr, i * 3, none⟩) hgl2).trans p1
                          have p8 := ((al (Below.refl _ w12) (.cells #[.int .i64 0, .int .i64 0] 58)).cell (p := ⟨gr, m3 * 3 + 1, none⟩) hgl2).trans p2
                          clear x12 g1 g2 g3 d1 d2 d3 f1 f2 HD
                          go_region_held3 (fun w' => w'.cell? ⟨gr, i * 3, none⟩ = some (.int .i64 (sa : Nat)) ∧ w'.cell? ⟨gr, m3 * 3 + 1, none⟩ = some (.int .i64 (rk : Nat))) (first | assumption | go_keep | (simp [go_sem, *]; done))
                            (first | (go_at_call 19; refine (HRG.out _).mono ?_; rintro e w13 ⟨rfl, x13⟩; first | (have y13 : Below w12.heap.size w12 w13 := ((Below.refl _ _).drew.trans x13); have Z13 := hide (bt Z12.out y13 (Nat.le_refl _)); have p3 := (y13.cell (p := ⟨gr, i * 3, none⟩) hgl2).trans p1; have p4 := (y13.cell (p := ⟨gr, m3 * 3 + 1, none⟩) hgl2).trans p2; have q3 := (y13.cell (p := ⟨sp, 1, none⟩) hsl2).trans q2; have hg13 : gr < w13.heap.size := (Nat.lt_of_lt_of_le hgl2 y13.size); have hs13 : sp < w13.heap.size := (Nat.lt_of_lt_of_le hsl2 y13.size); have p5 := ((al (Below.refl _ w13) (.cells #[.int .i64 0, .int .i64 0] 58)).cell (p := ⟨gr, i * 3, none⟩) hg13).trans p3; have p6 := ((al (Below.refl _ w13) (.cells #[.int .i64 0, .int .i64 0] 58)).cell (p := ⟨gr, m3 * 3 + 1, none⟩) hg13).trans p4; have q5 := ((al (Below.refl _ w13) (.cells #[.int .i64 0, .int .i64 0] 58)).cell (p := ⟨sp, 1, none⟩) hs13).trans q3; have n1 : ¬ gr = w13.heap.size := (by omega); have n2 : ¬ w13.heap.size = gr := (by omega); have n3 : ¬ sp = w13.heap.size := (by omega); have n4 : ¬ w13.heap.size = sp := (by omega); have hb9 : w9.heap.size ≤ w13.heap.size := Z13.out.size; have HWB : Hid (∀ u v, Below w9.heap.size w9 (((w13.alloc (.cells #[.int .i64 0, .int .i64 0] 58)).setCell ⟨w13.heap.size, 0, none⟩ u).setCell ⟨w13.heap.size, 1, none⟩ v)) := (fun u v => ((al Z13.out (.cells #[.int .i64 0, .int .i64 0] 58)).setCell hb9 u).setCell hb9 v); clear x13 y13 hb9) | (have y13 : Below w12.heap.size w12 w13 := ((al (Below.refl _ w12) (.cells #[.int .i64 0, .int .i64 0] 58)).drew.trans (x13.mono (al (Below.refl _ w12) (.cells #[.int .i64 0, .int .i64 0] 58)).size)); have Z13 := hide (bt Z12.out y13 (Nat.le_refl _)); have p3 := (y13.cell (p := ⟨gr, i * 3, none⟩) hgl2).trans p1; have p4 := (y13.cell (p := ⟨gr, m3 * 3 + 1, none⟩) hgl2).trans p2; have q3 := (y13.cell (p := ⟨sp, 1, none⟩) hsl2).trans q2; have hg13 : gr < w13.heap.size := (Nat.lt_of_lt_of_le hgl2 y13.size); have hs13 : sp < w13.heap.size := (Nat.lt_of_lt_of_le hsl2 y13.size); have b13 : w13.heap[w12.heap.size]? = some (.cells #[.int .i64 0, .int .i64 0] 58 (0, 0)) := (x13.block w12.heap.size (show w12.heap.size < (w12.alloc (.cells #[.int .i64 0, .int .i64 0] 58)).heap.size by simp)).trans (heap_alloc_new w12 (.cells #[.int .i64 0, .int .i64 0] 58)); have p5 : w13.cell? ⟨w12.heap.size, 0, none⟩ = some (.int .i64 0) := (by rw [cell_of_row w13 w12.heap.size 0 _ _ _ b13]; rfl); have p6 : w13.cell? ⟨w12.heap.size, 1, none⟩ = some (.int .i64 0) := (by rw [cell_of_row w13 w12.heap.size 1 _ _ _ b13]; rfl); have q5 := frozen_of_row w13 w12.heap.size 0 _ _ b13; have q6 := frozen_of_row w13 w12.heap.size 1 _ _ b13; have n1 : ¬ gr = w12.heap.size := (by omega); have n2 : ¬ w12.heap.size = gr := (by omega); have n3 : ¬ sp = w12.heap.size := (by omega); have n4 : ¬ w12.heap.size = sp := (by omega); have hb9 : w9.heap.size ≤ w12.heap.size := Z12.out.size; have HWB : Hid (∀ u v, Below w9.heap.size w9 ((w13.setCell ⟨w12.heap.size, 0, none⟩ u).setCell ⟨w12.heap.size, 1, none⟩ v)) := (fun u v => (Z13.out.setCell hb9 u).setCell hb9 v); clear x13 y13 hb9 b13)))
                          · clear hw3 hw5 hwk p1 p2 p3 p4 p5 p6 p7 p8
                            go_wp2
                            go_roundw
                            case rel => exact ⟨m3 + 1, by omega, by go_num, hi + 1, by go_num, HC4, al Z13.out _⟩
                            case measure => simp [RowKit.intOf]; omega
                          · clear hw3 hw5 hwk p1 p2 p3 p4 p5 p6 p7 p8
                            go_wp2
                            go_roundw
                            case rel => exact ⟨m3 + 1, by omega, by go_num, hi + 1, by go_num, HC4, HWB.out _ _⟩
                            case measure => simp [RowKit.intOf]; omega
                      · as_aux_lemma =>
                          have e3b : decide ((0 : Int) < (rk : Int)) = false := decide_eq_false (by omega)
                          refine wp_region_quiet (C := fun w' => Below w11.heap.size w11 w') (by kernel_rfl) (by kernel_rfl) HD.out ?_
                          refine QW.out (l := _ :: _) ?_
                          iterate 41 (refine QW.take (by rfl) ?_; apply Exists.intro; refine ⟨fun w' hw' => ?_, ?_⟩; (· (have k1 := (hw'.cell (p := ⟨gr, m3 * 3 + 1, none⟩) hgl).trans d2; have k2 := (hw'.cell (p := ⟨gr, m3 * 3 + 2, none⟩) hgl).trans d3; have k3 := (hw'.cell (p := ⟨gr, i * 3 + 1, none⟩) hgl).trans g2; have k4 := (hw'.cell (p := ⟨gr, i * 3 + 2, none⟩) hgl).trans g3; go_simp; first | done | ((try simp only [hw3, hw5, e3b]); first | done | rfl))); try simp only [Act.put, List.setIfInBounds_toArray, List.set_cons_zero, List.set_cons_succ])
                          refine QW.nil ?_
                          intro w12 x12
                          have Z12 := hide (bt Z11.out x12 (Nat.le_refl _))
                          have q2 := (x12.cell (p := ⟨sp, 1, none⟩) hsl).trans f2
                          go_wp2
                          go_roundw
                          case rel => exact ⟨m3 + 1, by omega, by go_num, hi + 1, by go_num, HC4, Z12⟩
                          case measure => simp [RowKit.intOf]; omega
                    · as_aux_lemma =>
                        have e2b : ((rk : Int) == (sk : Int)) = false := by simp; omega
                        refine wp_region_quiet (C := fun w' => Below w11.heap.size w11 w') (by kernel_rfl) (by kernel_rfl) HD.out ?_
                        refine QW.out (l := _ :: _) ?_
                        iterate 33 (refine QW.take (by rfl) ?_; apply Exists.intro; refine ⟨fun w' hw' => ?_, ?_⟩; (· (have k1 := (hw'.cell (p := ⟨gr, m3 * 3 + 1, none⟩) hgl).trans d2; have k2 := (hw'.cell (p := ⟨gr, m3 * 3 + 2, none⟩) hgl).trans d3; have k3 := (hw'.cell (p := ⟨gr, i * 3 + 1, none⟩) hgl).trans g2; have k4 := (hw'.cell (p := ⟨gr, i * 3 + 2, none⟩) hgl).trans g3; go_simp; first | done | ((try simp only [hw3, hw5, e2b]); first | done | rfl))); try simp only [Act.put, List.setIfInBounds_toArray, List.set_cons_zero, List.set_cons_succ])
                        iterate 7 (refine QW.skip (by rfl) ?_; try simp only [Act.put, List.setIfInBounds_toArray, List.set_cons_zero, List.set_cons_succ])
                        iterate 1 (refine QW.take (by rfl) ?_; apply Exists.intro; refine ⟨fun w' hw' => ?_, ?_⟩; (· (have k1 := (hw'.cell (p := ⟨gr, m3 * 3 + 1, none⟩) hgl).trans d2; have k2 := (hw'.cell (p := ⟨gr, m3 * 3 + 2, none⟩) hgl).trans d3; have k3 := (hw'.cell (p := ⟨gr, i * 3 + 1, none⟩) hgl).trans g2; have k4 := (hw'.cell (p := ⟨gr, i * 3 + 2, none⟩) hgl).trans g3; go_simp; first | done | ((try simp only [hw3, hw5, e2b]); first | done | rfl))); try simp only [Act.put, List.setIfInBounds_toArray, List.set_cons_zero, List.set_cons_succ])
                        refine QW.nil ?_
                        intro w12 x12
                        have Z12 := hide (bt Z11.out x12 (Nat.le_refl _))
                        have q2 := (x12.cell (p := ⟨sp, 1, none⟩) hsl).trans f2
                        go_wp2
                        go_roundw
                        case rel => exact ⟨m3 + 1, by omega, by go_num, hi + 1, by go_num, HC4, Z12⟩
                        case measure => simp [RowKit.intOf]; omega
                  · as_aux_lemma =>
                      have e1b : (rl == sl) = false := by simpa using e1
                      refine wp_region_quiet (C := fun w' => Below w11.heap.size w11 w') (by kernel_rfl) (by kernel_rfl) HD.out ?_
                      refine QW.out (l := _ :: _) ?_
                      iterate 17 (refine QW.take (by rfl) ?_; apply Exists.intro; refine ⟨fun w' hw' => ?_, ?_⟩; (· (have k1 := (hw'.cell (p := ⟨gr, m3 * 3 + 1, none⟩) hgl).trans d2; have k2 := (hw'.cell (p := ⟨gr, m3 * 3 + 2, none⟩) hgl).trans d3; have k3 := (hw'.cell (p := ⟨gr, i * 3 + 1, none⟩) hgl).trans g2; have k4 := (hw'.cell (p := ⟨gr, i * 3 + 2, none⟩) hgl).trans g3; go_simp; first | done | ((try simp only [hw3, hw5, e1b]); first | done | rfl))); try simp only [Act.put, List.setIfInBounds_toArray, List.set_cons_zero, List.set_cons_succ])
                      iterate 14 (refine QW.skip (by rfl) ?_; try simp only [Act.put, List.setIfInBounds_toArray, List.set_cons_zero, List.set_cons_succ])
                      iterate 2 (refine QW.take (by rfl) ?_; apply Exists.intro; refine ⟨fun w' hw' => ?_, ?_⟩; (· (have k1 := (hw'.cell (p := ⟨gr, m3 * 3 + 1, none⟩) hgl).trans d2; have k2 := (hw'.cell (p := ⟨gr, m3 * 3 + 2, none⟩) hgl).trans d3; have k3 := (hw'.cell (p := ⟨gr, i * 3 + 1, none⟩) hgl).trans g2; have k4 := (hw'.cell (p := ⟨gr, i * 3 + 2, none⟩) hgl).trans g3; go_simp; first | done | ((try simp only [hw3, hw5, e1b]); first | done | rfl))); try simp only [Act.put, List.setIfInBounds_toArray, List.set_cons_zero, List.set_cons_succ])
                      iterate 7 (refine QW.skip (by rfl) ?_; try simp only [Act.put, List.setIfInBounds_toArray, List.set_cons_zero, List.set_cons_succ])
                      iterate 1 (refine QW.take (by rfl) ?_; apply Exists.intro; refine ⟨fun w' hw' => ?_, ?_⟩; (· (have k1 := (hw'.cell (p := ⟨gr, m3 * 3 + 1, none⟩) hgl).trans d2; have k2 := (hw'.cell (p := ⟨gr, m3 * 3 + 2, none⟩) hgl).trans d3; have k3 := (hw'.cell (p := ⟨gr, i * 3 + 1, none⟩) hgl).trans g2; have k4 := (hw'.cell (p := ⟨gr, i * 3 + 2, none⟩) hgl).trans g3; go_simp; first | done | ((try simp only [hw3, hw5, e1b]); first | done | rfl))); try simp only [Act.put, List.setIfInBounds_toArray, List.set_cons_zero, List.set_cons_succ])
                      refine QW.nil ?_
                      intro w12 x12
                      have Z12 := hide (bt Z11.out x12 (Nat.le_refl _))
                      have q2 := (x12.cell (p := ⟨sp, 1, none⟩) hsl).trans f2
                      go_wp2
                      go_roundw
                      case rel => exact ⟨m3 + 1, by omega, by go_num, hi + 1, by go_num, HC4, Z12⟩
                      case measure => simp [RowKit.intOf]; omega
              · have h3' : ¬ (m3 : Int) < (R.length : Int) := by omega
                have hnx : nx = 4294967296 := by
                  have := HC3.out
                  rw [List.drop_eq_nil_of_le (by omega)] at this
                  exact this
                have hnx' : (nx : Int) = 4294967296 := by omega
                have X10 := hide (bt X9.out Z.out (Nat.le_refl _))
                clear hnx HC3 Z
                go_wp2
                go_ret
                exact ⟨rfl, X10.out⟩
  · have h1 : ¬ (L.length : Int) ≤ 33554431 := by omega
    go_enter Try.func5, Try.ntmps5
    go_wp2
    go_ret
    exact ⟨rfl, Below.refl _ _⟩
end Go.Proofs.Ytnfdjbaafiifnaa
