/-
  The document's Parts, walked. Condition: fewer than 2^32 spans in all.
-/
import Derived.Test.YtljagefcgijmlaaRefP0
namespace Go.Proofs.Ytljagefcgijmlaa
open Go.RowKit Go.Lib

theorem mem_getD {S : List (List Spn)} {k : Nat} (hk : k < S.length) : S.getD k [] ∈ S := by simp [List.getD_eq_getElem?_getD, hk]
theorem len_totL {S : List (List Spn)} {k : Nat} (hk : k < S.length) : (S.getD k []).length ≤ totL S := by have := totL_take S k hk; omega
theorem marks_map (S : List (List Spn)) (p : Int) (k : Nat) (hk : k < S.length) : (S.map (memB p)).getD k false = memB p (S.getD k []) := by simp [List.getD_eq_getElem?_getD, hk]

theorem PParts.len {S : List (List Spn)} {lo : Int} {Q : List (Spn × List Nat)} {q : Spn × List Nat} (h : PParts S lo (Q ++ [q])) : q.2.length ≤ S.length := by
  rw [h.each q (by simp) q.1.1 (Int.le_refl _) h.chain.last.2.1]
  have := List.length_filter_le (fun k => memB q.1.1 (S.getD k [])) (List.range S.length)
  rwa [List.length_range] at this
/-- Behind a part's append. -/
theorem new_fin {w3 wB wz w6 : World} {o v o' : Value} {P : List PartD} {I : List Nat} {p q : Int} {ob : Obj} (O1 : OwnP wB w3.heap.size o P) (HQ3 : Below w3.heap.size w3 wB) (HZ : Below wB.heap.size wB wz) (OW : OwnI wz wB.heap.size v I)
    (h1 : w6.ownsRow w3.heap.size 50 3 o' (P.length + 1) (ptCells P ++ [.int .i64 p, .int .i64 q, v])) (h2 : (wz.drew.alloc ob).grownBy w6 o.ownBlock) : OwnP w6 w3.heap.size o' (P ++ [⟨(p, q), v, I⟩]) ∧ Below w3.heap.size w3 w6 := by
  have b1 : Below wz.heap.size wz (wz.drew.alloc ob) := ((Below.refl _ _).drew).trans (((Below.refl _ _).alloc (Nat.le_refl _) _).mono (Nat.le_refl _))
  have o1 := (O1.below HZ).below b1
  refine ⟨OwnP.snoc (p := ⟨(p, q), v, I⟩) o1 ((OW.below b1).mono HQ3.size) (fun r hr k h3 h4 => ?_) h1 h2, ?_⟩
  · have h5 := ((O1.ints r hr).tag h3).2.1
    have h6 := (OW.tag h4).1
    omega
  · have b2 := bt (bt HQ3 HZ (Nat.le_refl _)) b1 (Nat.le_refl _)
    exact b2.grown h2 b2.size (fun i hi => (o1.tag hi).1)
theorem new_far {w3 wB wz w6 : World} {o x : Value} {P : List PartD} {ob : Obj} {pb off : Nat} (O1 : OwnP wB w3.heap.size o P) (hpb : pb < w3.heap.size) (hz : pb < wz.heap.size) (h2 : (wz.drew.alloc ob).grownBy w6 o.ownBlock) (hc : wz.cell? ⟨pb, off, none⟩ = some x) : w6.cell? ⟨pb, off, none⟩ = some x := by
  have ne : some pb ≠ o.ownBlock := fun he => by
    have := (O1.tag he.symm).1
    omega
  have hz' : pb < wz.drew.heap.size := hz
  rw [World.cell?_of_block (w := wz.drew.alloc ob) (h2.block pb (by simp; omega) ne), World.cell?_alloc_past _ _ _ hz']
  exact hc

set_option maxRecDepth 100000 in
set_option maxHeartbeats 4000000 in
theorem refParts_any (ao : Option Addr) (cap : Nat) (S : List (List Spn)) (w : World) (hlen : S.length ≤ 2147483647) (htot : totL S ≤ 4294967294) (hat : SqAt w ao S) :
    Calls Try.prog 31 #[.slice ao S.length cap] w fun e w' => ToldP S w e w' := by
  obtain ⟨i3, hi3, hz30, hz31, hz32⟩ : ∃ i, Try.prog.info? 3 = some i ∧ i.zero = some (.int .i64 0) ∧ i.size = 1 ∧ i.bytes = 8 := info_parts Try.info3
  obtain ⟨i5, hi5, hz50, hz51, hz52⟩ := info_parts Try.info50
  have HAT := hide hat
  clear hat
  by_cases h128 : S.length ≤ 128
  · have h128' : ¬ (128 : Int) < S.length := by omega
    go_enter Try.func31, Try.ntmps31
    go_wp2
    go_loopw [4] (fun x wr => ∃ i : Nat, i ≤ S.length ∧ x = .int .i64 i ∧ Hid (∀ j, j < i → IsSet (S.getD j [])) ∧ Below w.heap.size w wr) (fun x _ => S.length - (RowKit.intOf x).toNat)
    case atStart => exact ⟨0, Nat.zero_le _, rfl, fun j hj => absurd hj (by omega), Below.refl _ _⟩
    case round =>
      obtain ⟨i, hi1, rfl, SE, hq⟩ := hrel
      have HQ := hide hq
      clear hq
      by_cases hlt : i < S.length
      · rcases HAT.out.below HQ.out with h | ⟨b, off, rfl, hb, hc⟩
        · rw [h] at hlt; simp at hlt
        obtain ⟨ai, ci, q1, q2⟩ := hc i hlt
        have hll := len_totL hlt
        have HL : Hid (S.getD i [] ∈ S) := mem_getD hlt
        obtain ⟨L, hL⟩ : ∃ L, L = S.getD i [] := ⟨_, rfl⟩
        rw [← hL] at q1 q2 hll HL
        have HLE := hide hL
        have hcon := refRight_any ai ci L wr (by omega) q2
        clear hL hc q2
        have hlt' : (i : Int) < S.length := by omega
        by_cases hs : IsSet L
        · rw [decide_eq_true hs] at hcon
          have HS := hide hs
          clear hs
          go_wp2_with (go_at_call 17; refine hcon.mono ?_; rintro e w2 ⟨rfl, x2⟩; have X2 := hide (bt HQ.out x2 (Nat.le_refl _)); clear x2)
          go_roundw
          case rel =>
            refine ⟨i + 1, by omega, by go_num, fun j hj => ?_, X2.out⟩
            rcases Nat.lt_or_ge j i with h | h
            · exact SE.out j h
            · rw [show j = i by omega, ← HLE.out]; exact HS.out
          case measure => simp [RowKit.intOf]; omega
        · rw [decide_eq_false hs] at hcon
          have HS := hide hs
          clear hs
          go_wp2_with (go_at_call 17; refine hcon.mono ?_; rintro e w2 ⟨rfl, x2⟩; have X2 := hide (bt HQ.out x2 (Nat.le_refl _)); clear x2)
          go_ret2
          exact ⟨X2.out, .inr ⟨fun h => HS.out (h.2 L HL.out), rfl⟩⟩
      · have hall : ∀ L ∈ S, IsSet L := fun L hL => by
          obtain ⟨j, hj, rfl⟩ := List.getElem_of_mem hL
          simpa [List.getD_eq_getElem?_getD, hj] using SE.out j (by omega)
        have hlt' : ¬ (i : Int) < S.length := by omega
        have hpl := refPlaces_any ao cap S wr (by omega) htot hall (HAT.out.below HQ.out)
        have HPL := hide hpl
        have HALL := hide hall
        clear hpl hall SE
        go_wp2_with (go_at_call 56; refine HPL.out.mono ?_; rintro e w3 ⟨⟨v3, A, rfl, o3, u3, m3, l3⟩, x3⟩; obtain ⟨a3, c3, e3, t3, _, _⟩ := o3.shape; subst e3; have T3 := hide t3; have PL : Hid (PlP S A) := ⟨u3, m3⟩; have X3 := hide (bt HQ.out x3 (Nat.le_refl _)); have hA9 : A.length ≤ 8589934592 := (by omega); clear o3 u3 m3 x3 t3 l3)
        obtain ⟨hp0, hp1⟩ := PL.out.first HALL.out
        obtain ⟨pb, po, e, hpb, hpc⟩ := T3.out.get (i := 0) hp0
        subst e
        have HPC := hide hpc
        have HP1 := hide hp1
        clear hpc hp1 HPL
        go_loopw [7, 8] (fun o x wr => ∃ (i : Nat) (P : List PartD), i + 1 ≤ A.length ∧ x = .int .i64 i ∧ Hid (PParts S (A.getD i 0) (bare P)) ∧ Hid (P.length ≤ i) ∧ Hid (OwnP wr w3.heap.size o P) ∧ Below w3.heap.size w3 wr) (fun _ x _ => A.length - (RowKit.intOf x).toNat)
        case atStart =>
          refine ⟨0, [], hp0, rfl, ?_, Nat.zero_le _, OwnP.nil _ _, Below.refl _ _⟩
          unfold Hid
          rw [List.getD_eq_getElem?_getD, List.getElem?_eq_getElem hp0, Option.getD_some, HP1.out]
          exact PParts.start _
        case round =>
          obtain ⟨i, P, hi1, rfl, UP, HML, O1, hq⟩ := hrel
          have HQ3 := hide hq
          clear hq
          have XQ := hide (bt X3.out HQ3.out (Nat.le_refl _))
          by_cases hlt : i + 1 < A.length
          · have hlt' : (i : Int) + 1 < A.length := by omega
            have hpi := PL.out.piece HALL.out hlt
            have e1 : A.getD i 0 = A[i] := by rw [List.getD_eq_getElem?_getD, List.getElem?_eq_getElem (by omega), Option.getD_some]
            have e2 : A.getD (i + 1) 0 = A[i + 1] := by rw [List.getD_eq_getElem?_getD, List.getElem?_eq_getElem hlt, Option.getD_some]
            have d1 := (HQ3.out.cell (p := ⟨pb, po + i, none⟩) hpb).trans (HPC.out i (by omega))
            have d2 := (HQ3.out.cell (p := ⟨pb, po + (i + 1), none⟩) hpb).trans (HPC.out (i + 1) hlt)
            rw [← e1, ← e2] at hpi
            have hple := hpi.le
            have hplo := hpi.low
            have hpto := hpi.top
            generalize A.getD i 0 = p at *
            generalize hqe : A.getD (i + 1) 0 = q at *
            have HQE := hide hqe
            have HPI := hide hpi
            have hii : (i : Int) < A.length := by omega
            have fi : IntKind.i64.wrap ((i : Int) + 1) = (i : Int) + 1 := by simp [IntKind.wrap, IntKind.bits, IntKind.signed]; omega
            clear hqe hpi e1 e2
            rename World => wB
            have hpbB : pb < wB.heap.size := Nat.lt_of_lt_of_le hpb HQ3.out.size
            have HD1 := hide d1
            have HD2 := hide d2
            clear d1 d2
            go_wp2
            go_loopw [9, 10] (fun v x wz => ∃ k : Nat, k ≤ S.length ∧ x = .int .i64 k ∧ Hid (OwnI wz wB.heap.size v (marksTo (S.map (memB p)) k)) ∧ Below wB.heap.size wB wz) (fun _ x _ => S.length - (RowKit.intOf x).toNat)
            case atStart => exact ⟨0, Nat.zero_le _, rfl, World.ownsRow_nil _ _ _ _, Below.refl _ _⟩
            case round =>
              obtain ⟨k, hk1, rfl, OW, hq⟩ := hrel
              rename World => wz
              have HZ := hide hq
              clear hq
              have XZ := hide (bt XQ.out HZ.out (Nat.le_refl _))
              have hpbz : pb < wz.heap.size := Nat.lt_of_lt_of_le hpbB HZ.out.size
              by_cases hk : k < S.length
              · have hk' : (k : Int) < S.length := by omega
                rcases HAT.out.below XZ.out with h | ⟨b, off, e, hb, hc⟩
                · rw [h] at hk; simp at hk
                subst e
                obtain ⟨ai, ci, q1, q2⟩ := hc k hk
                have d1 := (HZ.out.cell (p := ⟨pb, po + i, none⟩) hpbB).trans HD1.out
                have hll := len_totL hk
                have hset := HALL.out _ (mem_getD hk)
                have hms := marksTo_succ (S.map (memB p)) k
                have hml := marksTo_length (S.map (memB p)) k
                rw [marks_map S p k hk] at hms
                generalize S.getD k [] = L at *
                have hn := in_any ai ci L p wz.drew (by omega) hset (q2.below (Below.refl _ _).drew)
                have HMS := hide hms
                have hset := hide hset
                clear hc q2 hms
                cases hf : memB p L with
                | true =>
                  rw [hf] at hn HMS
                  rw [if_pos rfl] at HMS
                  clear hf
                  go_wp2
                  go_region_held3 (fun w' => w'.cell? ⟨b, off + k, none⟩ = some (.slice ai L.length ci) ∧ w'.cell? ⟨pb, po + i, none⟩ = some (.int .i64 p)) (first | assumption | (simp [go_sem, *]; done))
                    (first | (go_at_call 45; refine hn.mono ?_; rintro e w5 ⟨rfl, x5⟩; have j1 : w5.cell? ⟨b, off + k, none⟩ = some (.slice ai L.length ci) := ((x5.cell (p := ⟨b, _, none⟩) hb).trans q1); have j2 : w5.cell? ⟨pb, po + i, none⟩ = some (.int .i64 p) := ((x5.cell (p := ⟨pb, _, none⟩) hpbz).trans d1); have X5 : Hid (Below wB.heap.size wB w5) := (HZ.out.drew.trans (x5.mono HZ.out.size)); have O5 : Hid (OwnI w5 wB.heap.size u9 (marksTo (S.map (memB p)) k)) := (OwnI.below (World.ownsRow.drew OW.out) x5); clear x5))
                  clear j1 j2 q1 d1
                  have hb1 : Below wB.heap.size wB (w5.alloc (.cells #[.int .i64 (k : Nat)] 3)) := X5.out.alloc X5.out.size _
                  have HB1 := hide hb1
                  have HN := hide (new_int w5 k w5.heap.size rfl)
                  have HO := hide (O5.out.below ((Below.refl w5.heap.size w5).alloc (Nat.le_refl _) (.cells #[.int .i64 (k : Nat)] 3)))
                  clear hb1 O5
                  go_wp2_with (at_builtin; refine wpList_append_own_at _ rfl (.tmp 55) (.tmp 57) 48 rfl wB.heap.size 3 i3 (.int .i64 0) 1 8 Try.underlying48 hi3 hz30 hz31 hz32 rfl (by decide) _ (marksTo (S.map (memB p)) k).length (intCells (marksTo (S.map (memB p)) k)) rfl HO.out ⟨w5.heap.size, 0, none⟩ 1 1 [.int .i64 (k : Nat)] rfl rfl HN.out (by simp [Value.oneCell']) (by unfold maxLen; omega) (by omega) HB1.out.size ?_; intro v8 w8 h1 h2 _ h3; have H1 := hide h1; have H2 := hide h2; clear h1 h2 h3)
                  go_roundw
                  case rel =>
                    refine ⟨k + 1, by omega, by go_num, ?_, HB1.out.grown H2.out HB1.out.size (fun i hi => ?_)⟩
                    · rw [HMS.out]
                      have := H1.out
                      unfold Hid OwnI
                      rw [List.length_append]
                      simpa [intCells] using this
                    · exact (HO.out.tag hi).1
                  case measure => simp [RowKit.intOf]; omega
                | false =>
                  rw [hf] at hn HMS
                  rw [if_neg (by decide), List.append_nil] at HMS
                  clear hf
                  go_wp2
                  go_region_held3 (fun w' => w'.cell? ⟨b, off + k, none⟩ = some (.slice ai L.length ci) ∧ w'.cell? ⟨pb, po + i, none⟩ = some (.int .i64 p)) (first | assumption | (simp [go_sem, *]; done))
                    (first | (go_at_call 45; refine hn.mono ?_; rintro e w5 ⟨rfl, x5⟩; have j1 : w5.cell? ⟨b, off + k, none⟩ = some (.slice ai L.length ci) := ((x5.cell (p := ⟨b, _, none⟩) hb).trans q1); have j2 : w5.cell? ⟨pb, po + i, none⟩ = some (.int .i64 p) := ((x5.cell (p := ⟨pb, _, none⟩) hpbz).trans d1); have X5 : Hid (Below wB.heap.size wB w5) := (HZ.out.drew.trans (x5.mono HZ.out.size)); have O5 : Hid (OwnI w5 wB.heap.size u9 (marksTo (S.map (memB p)) k)) := (OwnI.below (World.ownsRow.drew OW.out) x5); clear x5))
                  clear j1 j2 q1 d1
                  go_wp2
                  go_roundw
                  case rel => exact ⟨k + 1, by omega, by go_num, by rw [HMS.out]; exact O5.out, X5.out⟩
                  case measure => simp [RowKit.intOf]; omega
              · have hk' : ¬ (k : Int) < S.length := by omega
                have h8 : k = S.length := by omega
                subst h8
                have hIl : (marksTo (S.map (memB p)) S.length).length ≤ S.length := marksTo_length _ _
                obtain ⟨I, hI⟩ : ∃ I, I = marksTo (S.map (memB p)) S.length := ⟨_, rfl⟩
                rw [← hI] at OW hIl
                have HI := hide hI
                clear hI
                have hi0 : (0 : Int) ≤ (i : Int) + 1 := by omega
                have htn : ((i : Int) + 1).toNat = i + 1 := by omega
                obtain ⟨aw, cw, hv, hiat⟩ := OW.out.at'
                subst hv
                have OZ := hide (O1.out.below HZ.out)
                obtain ⟨ao7, c7, hv7, hao7⟩ := own_shape O1.out.row
                subst hv7
                have f1 := (HZ.out.cell (p := ⟨pb, po + i, none⟩) hpbB).trans HD1.out
                have f2 := (HZ.out.cell (p := ⟨pb, po + (i + 1), none⟩) hpbB).trans HD2.out
                have hml := HML.out
                rcases List.eq_nil_or_concat P with hP | ⟨B, z, hP⟩
                · subst hP
                  have hnw := UP.out.new HPI.out (fun Q' q' e => by simp [bare] at e)
                  rw [show q - 1 + 1 = q by omega, ← HI.out] at hnw
                  have HNEW := hide hnw
                  clear hnw
                  simp only [List.length_nil] at *
                  go_wp2
                  have hvl : Hid (IntKind.i64.wrap (q - 1) = q - 1) := by unfold Hid; simp [IntKind.wrap, IntKind.bits, IntKind.signed]; omega
                  have fq := hvl.out
                  have HN := hide (new_part wz.drew (p, q - 1) (.slice aw I.length cw) wz.drew.heap.size rfl)
                  have HOP := hide (OZ.out.below (((Below.refl wz.heap.size wz).drew).trans (((Below.refl wz.drew.heap.size wz.drew).alloc (Nat.le_refl _) (.cells #[.int .i64 p, .int .i64 (q - 1), .slice aw I.length cw] 50)).mono (Nat.le_refl _))))
                  have HO1 := hide O1.out
                  have hsz3 : Hid (w3.heap.size ≤ wz.heap.size) := Nat.le_trans HQ3.out.size HZ.out.size
                  have HF1 := hide f1
                  have HF2 := hide f2
                  go_region_held3 (fun w' => w'.cell? ⟨pb, po + i, none⟩ = some (.int .i64 p) ∧ w'.cell? ⟨pb, po + (i + 1), none⟩ = some (.int .i64 q)) (first | assumption | (simp [go_sem, *]; done))
                    (first | (refine step_append_lies _ (by rfl) (.tmp 85) (.tmp 99) 40 (by rfl) w3.heap.size 50 i5 (.agg #[.int .i64 0, .int .i64 0, .slice none 0 0]) 3 40 Try.underlying40 hi5 hz50 hz51 hz52 rfl (by decide) _ 0 (ptCells []) (by rfl) HOP.out.row ⟨wz.drew.heap.size, 0, none⟩ 1 1 [.int .i64 p, .int .i64 (q - 1), .slice aw I.length cw] (by rfl) (by rfl) HN.out (by simp [Value.oneCell']) (by decide) (by unfold maxLen; omega) (by omega) (Nat.le_trans hsz3.out (by simp)) _ rfl ?_; intro g6 cap6 w6 h1 h2 h3 h4; have d4 : w6.cell? ⟨pb, po + i, none⟩ = some (.int .i64 p) := (new_far HO1.out hpb hpbz h2 HF1.out); have d5 : w6.cell? ⟨pb, po + (i + 1), none⟩ = some (.int .i64 q) := (new_far HO1.out hpb hpbz h2 HF2.out); have H1 := hide h1; have H2 := hide h2; clear h1 h2 h3 h4))
                  have hfin := new_fin (P := []) (p := p) (q := q - 1) HO1.out HQ3.out HZ.out OW.out H1.out H2.out
                  have HFIN := hide hfin
                  clear hfin H1 H2 d4 d5
                  go_wp2
                  go_roundw
                  case rel =>
                    refine ⟨i + 1, [] ++ [(⟨(p, q - 1), .slice aw I.length cw, I⟩ : PartD)], by omega, by go_num, ?_, ?_, ?_, HFIN.out.2⟩
                    · rw [HQE.out, bare_snoc]; exact HNEW.out
                    · simp only [Hid, List.length_append, List.length_singleton, List.length_nil]; omega
                    · exact HFIN.out.1
                  case measure => simp [RowKit.intOf]; omega
                · rw [List.concat_eq_append] at hP
                  subst hP
                  have OZ3 := OZ.out
                  have hzr := ptCells_get (B ++ [z]) B.length (by simp)
                  have hzg : (B ++ [z])[B.length]'(by simp) = z := by simp
                  rw [hzg] at hzr
                  have hzi := OZ.out.ints z (by simp)
                  obtain ⟨az, cz, hzv, hziat⟩ := hzi.at'
                  have hrow := OZ.out.row
                  simp only [List.length_append, List.length_singleton] at *
                  obtain ⟨g, rfl⟩ := hao7 (by omega)
                  have k1 := World.ownsRow.cellAt hrow (B.length * 3 + 1) (by omega)
                  rw [hzr.2.1] at k1
                  have k2 := World.ownsRow.cellAt hrow (B.length * 3 + 2) (by omega)
                  rw [hzr.2.2, hzv] at k2
                  have fn : IntKind.i64.wrap ((B.length : Int) + 1 - 1) = (B.length : Int) := by simp [IntKind.wrap, IntKind.bits, IntKind.signed]; omega
                  have hzl : z.I.length ≤ 140737488351232 := by have := UP.out; rw [bare_snoc] at this; have := this.len; simp only at this; omega
                  have hgz : g < wz.heap.size := (OZ.out.tag rfl).2.1
                  have hi2 : (B.length : Int) < (B.length : Int) + 1 := by omega
                  have hlz : ¬ (B.length : Int) < 0 := by omega
                  have hin := refInts_any az aw cz cw z.I I wz hzl hziat hiat
                  have fq : IntKind.i64.wrap (q - 1) = q - 1 := by simp [IntKind.wrap, IntKind.bits, IntKind.signed]; omega
                  clear hzl hzr hzg hzi hrow OZ3 hziat hiat
                  by_cases hsm : z.I = I
                  · rw [decide_eq_true hsm] at hin
                    have HSM := hide hsm
                    clear hsm
                    go_wp2_with (fail)
                    refine hin.mono ?_
                    rintro e w5 ⟨rfl, x5⟩
                    have f15 := (x5.cell (p := ⟨pb, po + i, none⟩) hpbz).trans f1
                    have f25 := (x5.cell (p := ⟨pb, po + (i + 1), none⟩) hpbz).trans f2
                    have k15 := (x5.cell (p := ⟨g, B.length * 3 + 1, none⟩) hgz).trans k1
                    have hpb5 : pb < w5.heap.size := Nat.lt_of_lt_of_le hpbz x5.size
                    have Z5 := hide (bt HZ.out x5 (Nat.le_refl _))
                    have OZ5 := hide (OZ.out.below x5)
                    have OW5 := hide (OW.out.below x5)
                    have row5 := OZ5.out.row
                    rw [List.length_append, List.length_singleton] at row5
                    have fr5 := row5.frozenAt (B.length * 3 + 1)
                    clear x5 f1 f2 k1 k2 row5 hin
                    go_wp2
                    have ss := OZ5.out.setHi (q - 1)
                    have hup := UP.out
                    rw [bare_snoc] at hup
                    have hex := hup.extend HPI.out (HSM.out.trans HI.out)
                    rw [show q - 1 + 1 = q by omega] at hex
                    have b5 := bt HQ3.out Z5.out (Nat.le_refl _)
                    have b6 := b5.grown ss.2 b5.size (fun k hk => (OZ5.out.tag hk).1)
                    have HSS := hide ss
                    have HEX := hide hex
                    have HB6 := hide b6
                    clear ss hup hex b5 b6
                    go_roundw
                    case rel =>
                      refine ⟨i + 1, B ++ [(⟨(z.s.1, q - 1), z.v, z.I⟩ : PartD)], by omega, by go_num, ?_, ?_, HSS.out.1, HB6.out⟩
                      · rw [HQE.out, bare_snoc]; exact HEX.out
                      · simp only [Hid, List.length_append, List.length_singleton]; omega
                    case measure => simp [RowKit.intOf]; omega
                  · rw [decide_eq_false hsm] at hin
                    have hnw := UP.out.new HPI.out (fun Q' q' e => by
                      rw [bare_snoc] at e
                      have h2 := List.append_inj' e rfl
                      have h3 := List.cons.inj h2.2
                      rw [← h3.1, ← HI.out]
                      exact hsm)
                    rw [show q - 1 + 1 = q by omega, ← HI.out] at hnw
                    have HNEW := hide hnw
                    clear hnw
                    go_wp2_with (fail)
                    refine hin.mono ?_
                    rintro e w5 ⟨rfl, x5⟩
                    have f15 := (x5.cell (p := ⟨pb, po + i, none⟩) hpbz).trans f1
                    have f25 := (x5.cell (p := ⟨pb, po + (i + 1), none⟩) hpbz).trans f2
                    have k15 := (x5.cell (p := ⟨g, B.length * 3 + 1, none⟩) hgz).trans k1
                    have hpb5 : pb < w5.heap.size := Nat.lt_of_lt_of_le hpbz x5.size
                    have Z5 := hide (bt HZ.out x5 (Nat.le_refl _))
                    have OZ5 := hide (OZ.out.below x5)
                    have OW5 := hide (OW.out.below x5)
                    have row5 := OZ5.out.row
                    rw [List.length_append, List.length_singleton] at row5
                    have fr5 := row5.frozenAt (B.length * 3 + 1)
                    clear x5 f1 f2 k1 k2 row5 hin
                    go_wp2
                    clear k15 fr5
                    have hvl : Hid (IntKind.i64.wrap (q - 1) = q - 1) := by unfold Hid; simp [IntKind.wrap, IntKind.bits, IntKind.signed]; omega
                    have fq := hvl.out
                    have HN := hide (new_part w5.drew (p, q - 1) (.slice aw I.length cw) w5.drew.heap.size rfl)
                    have HOP := hide (OZ5.out.below (((Below.refl w5.heap.size w5).drew).trans (((Below.refl w5.drew.heap.size w5.drew).alloc (Nat.le_refl _) (.cells #[.int .i64 p, .int .i64 (q - 1), .slice aw I.length cw] 50)).mono (Nat.le_refl _))))
                    have HROW : Hid ((w5.drew.alloc (.cells #[.int .i64 p, .int .i64 (q - 1), .slice aw I.length cw] 50)).ownsRow w3.heap.size 50 3 (.slice (some ⟨g, 0, none⟩) (B.length + 1) c7) (B.length + 1) (ptCells (B ++ [z]))) := by have := HOP.out.row; rw [List.length_append, List.length_singleton] at this; exact this
                    have HO1 := hide O1.out
                    have hsz3 : Hid (w3.heap.size ≤ w5.heap.size) := Nat.le_trans HQ3.out.size Z5.out.size
                    have HF1 := hide f15
                    have HF2 := hide f25
                    go_region_held3 (fun w' => w'.cell? ⟨pb, po + i, none⟩ = some (.int .i64 p) ∧ w'.cell? ⟨pb, po + (i + 1), none⟩ = some (.int .i64 q)) (first | assumption | (simp [go_sem, *]; done))
                      (first | (refine step_append_lies _ (by rfl) (.tmp 85) (.tmp 99) 40 (by rfl) w3.heap.size 50 i5 (.agg #[.int .i64 0, .int .i64 0, .slice none 0 0]) 3 40 Try.underlying40 hi5 hz50 hz51 hz52 rfl (by decide) _ (B.length + 1) (ptCells (B ++ [z])) (by rfl) HROW.out ⟨w5.drew.heap.size, 0, none⟩ 1 1 [.int .i64 p, .int .i64 (q - 1), .slice aw I.length cw] (by rfl) (by rfl) HN.out (by simp [Value.oneCell']) (by decide) (by unfold maxLen; omega) (by omega) (Nat.le_trans hsz3.out (by simp)) _ rfl ?_; intro g6 cap6 w6 h1 h2 h3 h4; have d4 : w6.cell? ⟨pb, po + i, none⟩ = some (.int .i64 p) := (new_far HO1.out hpb hpb5 h2 HF1.out); have d5 : w6.cell? ⟨pb, po + (i + 1), none⟩ = some (.int .i64 q) := (new_far HO1.out hpb hpb5 h2 HF2.out); have H1 := hide h1; have H2 := hide h2; clear h1 h2 h3 h4))
                    have hfin := new_fin (P := B ++ [z]) (p := p) (q := q - 1) HO1.out HQ3.out Z5.out OW5.out (by rw [List.length_append, List.length_singleton]; exact H1.out) H2.out
                    have HFIN := hide hfin
                    clear hfin H1 H2 d4 d5
                    go_wp2
                    go_roundw
                    case rel =>
                      refine ⟨i + 1, (B ++ [z]) ++ [(⟨(p, q - 1), .slice aw I.length cw, I⟩ : PartD)], by omega, by go_num, ?_, ?_, ?_, HFIN.out.2⟩
                      · rw [HQE.out, bare_snoc]; exact HNEW.out
                      · simp only [Hid, List.length_append, List.length_singleton]; omega
                      · exact HFIN.out.1
                    case measure => simp [RowKit.intOf]; omega
          · have h8 : i + 1 = A.length := by omega
            have hlt' : ¬ (i : Int) + 1 < A.length := by omega
            have hu := UP.out
            rw [List.getD_eq_getElem?_getD, List.getElem?_eq_getElem (by omega), Option.getD_some, PL.out.last HALL.out (by omega) h8] at hu
            have HU := hide hu
            have fi : IntKind.i64.wrap ((i : Int) + 1) = (i : Int) + 1 := by simp [IntKind.wrap, IntKind.bits, IntKind.signed]; omega
            clear hu h8
            go_wp2
            go_ret2
            exact ⟨XQ.out, .inl ⟨⟨h128, HALL.out⟩, _, P, rfl, O1.out.mono X3.out.size, HU.out⟩⟩
  · have h128' : (128 : Int) < S.length := by omega
    go_enter Try.func31, Try.ntmps31
    go_wp2
    go_ret2
    exact ⟨Below.refl _ _, .inr ⟨fun h => h128 h.1, rfl⟩⟩
end Go.Proofs.Ytljagefcgijmlaa
