/-
  LexScans answers true. Conditions: texts no longer than a process can hold; the library's ErrRange reads as its text lays it.
-/
import Derived.Test.YtkpdbbbeagnjpaaGreatDoorQ12
import Derived.Test.YtkpdbbbeagnjpaaGreatDoorQ42
import Derived.Test.YtkpdbbbeagnjpaaGreatDoorQ45
namespace Go.Proofs.YtkpdbbbeagnjpaaGreatDoor
open Go.RowKit Go.Lib

/-- What Scan tells, part by part. -/
def tkO (s : By) : List Tk := match scanQ s with | .ok L => L | .error _ => []
def erO (s : By) : Int := match scanQ s with | .ok _ => 0 | .error p => p.1
def plO (s : By) : Int := match scanQ s with | .ok _ => 0 | .error p => p.2
theorem tkO_len (s : By) : (tkO s).length ≤ 8001 := by
  unfold tkO
  cases h : scanQ s with
  | error e => simp
  | ok L => exact (scan_len h).1
theorem scnQ_parts {s : By} {base : Nat} {e : Ending} {w : World} (h : ScnQ s base e w) : ∃ ao cp, e = .returned (.tuple #[.slice ao (tkO s).length cp, .int .i64 (erO s), .int .i64 (plO s)]) ∧ w.ownsRow base 40 6 (.slice ao (tkO s).length cp) (tkO s).length (tkC (tkO s)) := by
  unfold ScnQ at h
  unfold tkO erO plO
  cases hs : scanQ s with
  | error p =>
    obtain ⟨c, q⟩ := p
    rw [hs] at h
    exact ⟨none, 0, h, World.ownsRow_nil _ _ _ _⟩
  | ok L =>
    rw [hs] at h
    obtain ⟨tv, rfl, ho⟩ := h
    obtain ⟨ao, cp, e, _⟩ := own_shape ho
    subst e
    exact ⟨ao, cp, rfl, ho⟩
/-- The six sources. -/
def sixS (s t : By) : Nat → By
  | 0 => s
  | 1 => t
  | 2 => s
  | 3 => s ++ t
  | 4 => s ++ 32 :: t
  | _ => s ++ 35 :: t ++ 10 :: s
theorem ba_app (a b : By) : (⟨a.toArray⟩ : ByteArray) ++ ⟨b.toArray⟩ = ⟨(a ++ b).toArray⟩ := by
  apply ByteArray.ext
  simp [ByteArray.data_append]
set_option maxHeartbeats 1000000 in
set_option maxRecDepth 100000 in
theorem lexScans_any (s t : By) (w : World) (hs : s.length ≤ 140737488351232) (ht : t.length ≤ 140737488351232) (hev : ErrV w.heap.size w) :
    Calls Tryz.prog 3 #[.string ⟨s.toArray⟩, .string ⟨t.toArray⟩] w fun e w' => e = .returned (.bool true) ∧ Below w.heap.size w w' := by
  have hsz := bs_size s
  have hst := bs_size t
  have a1 := addI_in (n := s.length) (m := t.length) (by omega) (by omega)
  have HD1 := hide (fun W => add2_any s.length t.length W (by omega) (by omega) (by omega) (by omega))
  have HBD : Hid (addI s.length t.length ≤ 536870911 → s.length + t.length ≤ 536870911) := fun h => by
    unfold addI at h
    split at h
    · omega
    · omega
  generalize addI s.length t.length = A1 at *
  have HAW := hide (awake_any w)
  obtain ⟨M, hM⟩ : ∃ M, min A1 2147483647 = M := ⟨_, rfl⟩
  have fM : IntKind.i64.wrap (4 * M) = 4 * M := by simp [IntKind.wrap, IntKind.bits, IntKind.signed]; omega
  by_cases hA : 2147483647 < 4 * M
  · go_enter Tryz.func3, Tryz.ntmps3
    go_wp2_with (go_at_call 6; refine (HD1.out _).mono ?_; rintro e wz ⟨rfl, hwz⟩; have hwz := hwz.symm; subst hwz)
    go_ret
    exact ⟨rfl, Below.refl _ _⟩
  · have HLL := hide (HBD.out (by omega))
    have hll1 : s.length ≤ 536870911 := by have := HLL.out; omega
    have hll2 : t.length ≤ 536870911 := by have := HLL.out; omega
    go_enter Tryz.func3, Tryz.ntmps3
    go_upto_region 4 with (first | (go_at_call 6; refine (HD1.out _).mono ?_; rintro e wz ⟨rfl, hwz⟩; have hwz := hwz.symm; subst hwz) | (go_at_call 7; refine HAW.out.mono ?_; rintro e w1 ⟨rfl, x1⟩; have X1 := hide x1; clear x1))
    have HEV1 := hide (hev.grow X1.out)
    clear HAW HD1 hev hA HBD fM hM a1
    go_upto_region 5 with fail
    have hc3 := ba_app s t
    have hc4 : (⟨s.toArray⟩ : ByteArray) ++ ⟨#[32]⟩ ++ ⟨t.toArray⟩ = ⟨(s ++ 32 :: t).toArray⟩ := by
      rw [show (⟨#[32]⟩ : ByteArray) = ⟨[32].toArray⟩ from rfl, ba_app, ba_app]
      simp
    have hc5 : (⟨s.toArray⟩ : ByteArray) ++ ⟨#[35]⟩ ++ ⟨t.toArray⟩ ++ ⟨#[10]⟩ ++ ⟨s.toArray⟩ = ⟨(s ++ 35 :: t ++ 10 :: s).toArray⟩ := by
      rw [show (⟨#[35]⟩ : ByteArray) = ⟨[35].toArray⟩ from rfl, show (⟨#[10]⟩ : ByteArray) = ⟨[10].toArray⟩ from rfl, ba_app, ba_app, ba_app, ba_app]
      simp
    obtain ⟨w2, hw2⟩ : ∃ w2, w2 = w1.alloc (.cells #[.string ⟨s.toArray⟩, .string ⟨t.toArray⟩, .string ⟨s.toArray⟩, .string ((⟨s.toArray⟩ : ByteArray) ++ ⟨t.toArray⟩), .string ((⟨s.toArray⟩ : ByteArray) ++ ⟨#[32]⟩ ++ ⟨t.toArray⟩), .string ((⟨s.toArray⟩ : ByteArray) ++ ⟨#[35]⟩ ++ ⟨t.toArray⟩ ++ ⟨#[10]⟩ ++ ⟨s.toArray⟩)] 9) := ⟨_, rfl⟩
    have X2 : Hid (Below w1.heap.size w1 w2) := by unfold Hid; rw [hw2]; exact al (Below.refl _ _) _
    have B2 : Hid (w2.heap[w1.heap.size]? = some (.cells #[.string ⟨s.toArray⟩, .string ⟨t.toArray⟩, .string ⟨s.toArray⟩, .string ⟨(s ++ t).toArray⟩, .string ⟨(s ++ 32 :: t).toArray⟩, .string ⟨(s ++ 35 :: t ++ 10 :: s).toArray⟩] 9 (0, 0))) := by
      unfold Hid
      rw [hw2, hc3, hc4, hc5]
      exact heap_alloc_new w1 _
    rw [← hw2]
    clear hw2 hc3 hc4 hc5
    have HEV2 := hide (HEV1.out.grow X2.out)
    obtain ⟨b6, hb6⟩ : ∃ b6, b6 = w1.heap.size := ⟨_, rfl⟩
    rw [← hb6] at B2 ⊢
    clear hb6 HEV1
    have HC : Hid (∀ V i, i < 6 → Below w2.heap.size w2 V → V.cell? ⟨b6, i, none⟩ = some (.string ⟨(sixS s t i).toArray⟩) ∧ b6 < V.heap.size) := fun V i hi y => by
      have h6 := (y.block b6 (lt_of_block B2.out)).trans B2.out
      refine ⟨?_, lt_of_block h6⟩
      rw [cell_of_row _ _ _ _ _ _ h6]
      have key : i = 0 ∨ i = 1 ∨ i = 2 ∨ i = 3 ∨ i = 4 ∨ i = 5 := by omega
      rcases key with rfl | rfl | rfl | rfl | rfl | rfl
      all_goals rfl
    clear B2
    obtain ⟨i26, hi26, hy0, hy1, hy2⟩ := info_parts Tryz.info26s
    have N0 := hide (ApS.nil w2 w2.heap.size (fun j => tkO (sixS s t j)))
    go_wp2
    go_loopg [7, 8, 9] 8 (fun g o wv x wr => ∃ (i : Nat) (D E : List LD), x = .int .i64 (i : Nat) ∧ i ≤ 6 ∧ Hid (D.length = i) ∧ Hid (E.length = i) ∧ Hid (ApS w2 w2.heap.size (fun j => tkO (sixS s t j)) o wv D E wr) ∧ 6 - i < g)
    case atStart => exact ⟨0, [], [], rfl, by omega, rfl, rfl, N0, by omega⟩
    case round =>
      clear N0
      obtain ⟨i, D, E, rfl, hi1, HDi, HEi, HA, hg⟩ := hrel
      have HG := hide hg
      clear hg
      obtain ⟨oa, oc, ho, hop⟩ := own_shape HA.out.ls.row
      obtain ⟨wa, wcp, hwv, hwp⟩ := own_shape HA.out.row
      subst ho hwv
      by_cases hi : i < 6
      · have hi' : (i : Int) < 6 := by omega
        have f1 : IntKind.i64.wrap ((i : Int) + 1) = (i : Int) + 1 := by rw [show (i : Int) + 1 = ((i + 1 : Nat) : Int) by simp]; simp [IntKind.wrap, IntKind.bits, IntKind.signed]; omega
        obtain ⟨c0, l0⟩ := HC.out wr i hi HA.out.below
        have HTT : Hid (∀ u, u = sixS s t i → tkO u = (fun j => tkO (sixS s t j)) i) := fun u hu => by rw [hu]
        obtain ⟨u, hu⟩ : ∃ u, u = sixS s t i := ⟨_, rfl⟩
        have HU := hide (HTT.out u hu)
        have HUC : Hid (∀ V, Below w2.heap.size w2 V → V.cell? ⟨b6, i, none⟩ = some (.string ⟨u.toArray⟩) ∧ b6 < V.heap.size) := fun V y => by rw [hu]; exact HC.out V i hi y
        rw [← hu] at c0
        clear hu HTT
        have HEV3 := hide (HEV2.out.grow HA.out.below)
        have HS1 : Hid (Calls Tryz.prog 8 #[.string ⟨u.toArray⟩] wr fun e w' => (∃ ao cp, e = .returned (.tuple #[.slice ao (tkO u).length cp, .int .i64 (erO u), .int .i64 (plO u)]) ∧ w'.ownsRow wr.heap.size 40 6 (.slice ao (tkO u).length cp) (tkO u).length (tkC (tkO u))) ∧ Below wr.heap.size wr w') := by
          refine (scan_any u wr HEV3.out).mono ?_
          rintro e w' ⟨h, x⟩
          exact ⟨scnQ_parts h, x⟩
        have HS2 : Hid (∀ V, Calls Tryz.prog 9 #[.string ⟨u.toArray⟩] V fun e w' => (∃ ao cp, e = .returned (.tuple #[.slice ao (tkO u).length cp, .int .i64 (erO u), .int .i64 (plO u)]) ∧ w'.ownsRow V.heap.size 40 6 (.slice ao (tkO u).length cp) (tkO u).length (tkC (tkO u))) ∧ Below V.heap.size V w') := fun V => by
          refine (scanD_any u V).mono ?_
          rintro e w' ⟨h, x⟩
          exact ⟨scnQ_parts h, x⟩
        have hlu := tkO_len u
        obtain ⟨T, hT⟩ : ∃ T, T = tkO u := ⟨_, rfl⟩
        rw [← hT] at HS1 HS2 hlu HU
        clear hT HEV3
        generalize erO u = er at *
        generalize plO u = pl at *
        go_upto_region 11 with (go_at_call 8; refine HS1.out.mono ?_; rintro e w3 ⟨⟨ao3, cp3, rfl, ho3⟩, x3⟩; have HO3 := hide ho3; have X3 := hide x3; clear ho3 x3)
        clear c0 l0 HS1
        obtain ⟨c0, l0⟩ := HUC.out w3 (bt HA.out.below X3.out (Nat.le_refl _))
        go_upto_region 12 with (go_at_call 9; refine (HS2.out _).mono ?_; rintro e w4 ⟨⟨ao4, cp4, rfl, ho4⟩, x4⟩; have HO4 := hide ho4; have X4 := hide x4; clear ho4 x4)
        clear c0 l0 HS2 HUC
        have HSM := hide (same_any T (.slice ao3 T.length cp3) (.slice ao4 T.length cp4) wr.heap.size w3.heap.size w4 (own_below HO3.out X4.out) HO4.out (by omega))
        go_upto_region 15 with (go_at_call 10; refine HSM.out.mono ?_; rintro e w5 ⟨rfl, x5⟩; have X5 := hide x5; clear x5)
        clear HSM
        have hDl : D.length ≤ 6 := by have := HDi.out; omega
        have hEl : E.length ≤ 6 := by have := HEi.out; omega
        have XA := hide (bt X3.out (bt X4.out X5.out (Nat.le_refl _)) (Nat.le_refl _))
        have hwr := hide HA.out.below.size
        have HA5 := hide (HA.out.next (Nat.le_refl _) (al XA.out (.cells #[.slice ao3 T.length cp3] 26)))
        have HO35 : Hid (OwnK (w5.alloc (.cells #[.slice ao3 T.length cp3] 26)) w2.heap.size (.slice ao3 T.length cp3) T) := own_mono (own_below HO3.out (al (bt X4.out X5.out (Nat.le_refl _)) _)) hwr.out
        have HO45 : Hid (OwnK (w5.alloc (.cells #[.slice ao3 T.length cp3] 26)) w2.heap.size (.slice ao4 T.length cp4) T) := own_mono (own_below HO4.out (al X5.out _)) (Nat.le_trans hwr.out X3.out.size)
        have HNE : Hid (∀ d ∈ D, ∀ v ∈ [(⟨.slice ao3 T.length cp3, T.length⟩ : LD)], ∀ k, d.v.ownBlock = some k → ¬ v.v.ownBlock = some k) := fun d hd v hv k h1 h2 => by
          obtain ⟨j, hj, rfl⟩ := List.mem_iff_getElem.1 hd
          have := (World.ownsRow.lt (HA.out.ls.each j hj) k h1).2
          have hv : v = ⟨.slice ao3 T.length cp3, T.length⟩ := by simpa using hv
          subst hv
          have := (World.ownsRow.lt HO3.out k h2).1
          omega
        have HTD : Hid (T = (fun j => tkO (sixS s t j)) (D.length + 0)) := by unfold Hid; rw [Nat.add_zero, HDi.out]; exact HU.out
        have HTE : Hid (T = (fun j => tkO (sixS s t j)) (E.length + 0)) := by unfold Hid; rw [Nat.add_zero, HEi.out]; exact HU.out
        have P1 := hide HA5.out.ls.row
        have P2 := hide (one_cell 26 w5 (.slice ao3 T.length cp3))
        have P3 : Hid (w2.heap.size ≤ (w5.alloc (.cells #[.slice ao3 T.length cp3] 26)).heap.size) := HA5.out.below.size
        have P4 : Hid (∀ v' w', w'.ownsRow w2.heap.size 26 1 v' (D.length + 1) (D.map LD.v ++ [.slice ao3 T.length cp3]) → AppAt (w5.alloc (.cells #[.slice ao3 T.length cp3] 26)) w' (.slice oa D.length oc) v' → ApS w2 w2.heap.size (fun j => tkO (sixS s t j)) v' (.slice wa E.length wcp) (D ++ [⟨.slice ao3 T.length cp3, T.length⟩]) E w' ∧ OwnK w' w2.heap.size (.slice ao4 T.length cp4) T) := fun v' w' q1 q2 =>
          ⟨HA5.out.pushO (Nat.le_refl _) [⟨.slice ao3 T.length cp3, T.length⟩] (fun j hj => by
            obtain rfl : j = 0 := by simpa using hj
            rw [← show T = tkO (sixS s t (D.length + 0)) from HTD.out]
            exact ⟨rfl, HO35.out⟩) (List.pairwise_singleton _ _) HNE.out q1 q2, pushed q2 HA5.out.ls.row HO45.out⟩
        clear HA HA5 HO35 HO45 HNE HTD HO3 HO4 X3 X4 X5
        go_upto_region 16 with (at_builtin; refine wpList_append_view rfl (.tmp 84) (.tmp 86) 25 rfl w2.heap.size 26 i26 (.slice none 0 0) 1 24 Tryz.underlying25 hi26 hy0 hy1 hy2 rfl (by decide) _ D.length (D.map LD.v) rfl P1.out ⟨w5.heap.size, 0, none⟩ 1 1 [.slice ao3 T.length cp3] rfl rfl P2.out (by simp [Value.oneCell']) (by decide) (by unfold maxLen; omega) (by omega) P3.out ?_; intro v6 w6 q1 q2; obtain ⟨a6, o6⟩ := P4.out v6 w6 q1 q2; have HA6 := hide a6; have HO6 := hide o6; clear q1 q2 a6 o6)
        clear P1 P2 P3 P4
        have HA7 := hide (HA6.out.next (Nat.le_refl _) (al (Below.refl w6.heap.size w6) (.cells #[.slice ao4 T.length cp4] 26)))
        have HO7 : Hid (OwnK (w6.alloc (.cells #[.slice ao4 T.length cp4] 26)) w2.heap.size (.slice ao4 T.length cp4) T) := own_below HO6.out (al (Below.refl w6.heap.size w6) _)
        have P1 := hide HA7.out.row
        have P2 := hide (one_cell 26 w6 (.slice ao4 T.length cp4))
        have P3 : Hid (w2.heap.size ≤ (w6.alloc (.cells #[.slice ao4 T.length cp4] 26)).heap.size) := HA7.out.below.size
        have P4 : Hid (∀ v' w', w'.ownsRow w2.heap.size 26 1 v' (E.length + 1) (E.map LD.v ++ [.slice ao4 T.length cp4]) → AppAt (w6.alloc (.cells #[.slice ao4 T.length cp4] 26)) w' (.slice wa E.length wcp) v' → ApS w2 w2.heap.size (fun j => tkO (sixS s t j)) v6 v' (D ++ [⟨.slice ao3 T.length cp3, T.length⟩]) (E ++ [⟨.slice ao4 T.length cp4, T.length⟩]) w') := fun v' w' q1 q2 =>
          HA7.out.pushE (Nat.le_refl _) [⟨.slice ao4 T.length cp4, T.length⟩] (fun j hj => by
            obtain rfl : j = 0 := by simpa using hj
            rw [← show T = tkO (sixS s t (E.length + 0)) from HTE.out]
            exact ⟨rfl, HO7.out⟩) q1 q2
        clear HA6 HA7 HO6 HO7 HTE
        go_wp2_with (at_builtin; refine wpList_append_view rfl (.tmp 88) (.tmp 90) 25 rfl w2.heap.size 26 i26 (.slice none 0 0) 1 24 Tryz.underlying25 hi26 hy0 hy1 hy2 rfl (by decide) _ E.length (E.map LD.v) rfl P1.out ⟨w6.heap.size, 0, none⟩ 1 1 [.slice ao4 T.length cp4] rfl rfl P2.out (by simp [Value.oneCell']) (by decide) (by unfold maxLen; omega) (by omega) P3.out ?_; intro v7 w7 q1 q2; have HA8 := hide (P4.out v7 w7 q1 q2); clear q1 q2)
        go_roundg (6 - (i + 1) + 1)
        case measure => have := HG.out; omega
        case rel => exact ⟨i + 1, _, _, by first | rfl | go_num | (congr 1; omega), by omega, by unfold Hid; rw [List.length_append, HDi.out]; rfl, by unfold Hid; rw [List.length_append, HEi.out]; rfl, HA8, by omega⟩
      · obtain rfl : i = 6 := by omega
        have hi' : ¬ (6 : Int) < 6 := by omega
        have hED : E.length = D.length := by rw [HEi.out, HDi.out]
        obtain ⟨lb, hlb⟩ := hop (by have := HDi.out; omega)
        obtain ⟨eb, heb⟩ := hwp (by have := HEi.out; omega)
        subst hlb heb
        have HAP : Hid (Calls Tryz.prog 11 #[.slice (some ⟨lb, 0, none⟩) D.length oc, .slice (some ⟨eb, 0, none⟩) E.length wcp] wr fun e w' => e = .returned (.bool true) ∧ Below w2.heap.size w2 w') := by
          have := HA.out
          unfold Hid
          rw [hED] at this ⊢
          exact this.done (Nat.le_refl _) hED (by have := HDi.out; omega) (fun j => by have := tkO_len (sixS s t j); show (tkO (sixS s t j)).length ≤ _; omega)
        clear hED HA
        go_wp2_with (go_at_call 11; refine HAP.out.mono ?_; rintro e w9 ⟨rfl, x9⟩; have X9 := hide x9; clear x9)
        go_ret
        exact ⟨rfl, bt X1.out (bt X2.out X9.out (Nat.le_refl _)) (Nat.le_refl _)⟩
end Go.Proofs.YtkpdbbbeagnjpaaGreatDoor
