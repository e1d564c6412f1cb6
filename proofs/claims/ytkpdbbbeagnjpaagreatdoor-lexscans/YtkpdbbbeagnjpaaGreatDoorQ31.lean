/-
  The document's Quote by its contract. Condition: the text is no longer than a process can hold.
-/
import Derived.Test.YtkpdbbbeagnjpaaGreatDoorQ11
import Derived.Test.YtkpdbbbeagnjpaaGreatDoorQ30
import Derived.Lib.ConvBytes
import Derived.Lib.AppendStr
namespace Go.Proofs.YtkpdbbbeagnjpaaGreatDoor
open Go.RowKit Go.Lib

theorem byte_row (w : World) (c : Int) : (w.alloc (.cells #[.int .u8 c] 5)).ownsRow w.heap.size 5 1 (.slice (some ⟨w.heap.size, 0, none⟩) 1 1) 1 [.int .u8 c] :=
  ⟨by simp, .inr ⟨w.heap.size, 1, #[.int .u8 c], rfl, Nat.le_refl _, heap_alloc_new _ _, Nat.le_refl _, by unfold maxLen; omega, by simp, by simp⟩⟩
/-- A row of bytes that grows, from base on. -/
structure RwB (w0 w : World) (v : Value) (l : By) : Prop where
  own : w.ownsRow w0.heap.size 5 1 v l.length (Lib.byteCells l)
  bel : Below w0.heap.size w0 w
theorem RwB.app {w0 w w5 w' : World} {v v' : Value} {l : By} {c : UInt8} (h : RwB w0 w v l) (x : Below w.heap.size w w5) (h1 : w'.ownsRow w0.heap.size 5 1 v' (l.length + 1) (Lib.byteCells l ++ [.int .u8 (c.toNat : Int)])) (h2 : AppAt w5 w' v v') : RwB w0 w' v' (l ++ [c]) := by
  refine ⟨by have e : Lib.byteCells (l ++ [c]) = Lib.byteCells l ++ [.int .u8 (c.toNat : Int)] := (by simp [Lib.byteCells]); rw [e]; simpa using h1, ?_⟩
  rcases h2 with ⟨g, g1, g2, g3⟩ | ⟨g1, g2⟩
  · have hg := (World.ownsRow.lt h.own g g1).1
    exact (bt h.bel x (Nat.le_refl _)).trans ((kept_of_grown g3).below (bt h.bel x (Nat.le_refl _)).size (fun i hi => by have : g = i := (by simpa using hi); omega))
  · exact bt (bt h.bel x (Nat.le_refl _)) (below_of_grown g1) (Nat.le_refl _)
theorem conv_bytes (w : World) (g cap : Nat) (l : By) (base : Nat) (h : w.ownsRow base 5 1 (.slice (some ⟨g, 0, none⟩) l.length cap) l.length (Lib.byteCells l)) : (convert 36 9 (.slice (some ⟨g, 0, none⟩) l.length cap)).run Tryz.prog w = .ok (.string ⟨l.toArray⟩) w := by
  have := run_convert_bytes_arg (P := Tryz.prog) w 36 5 Tryz.underlying36 Tryz.underlying5 g 0 l.length cap (l.map fun b : UInt8 => (b.toNat : Int)) (by simp) (fun i hi => by
    have hi2 : i < l.length := by simpa using hi
    have hc := h.cells (g := g) rfl i (.int .u8 (l[i].toNat : Int)) (by simp [Lib.byteCells, hi2])
    rw [show (⟨g, 0, none⟩ : Addr).add i = ⟨g, 0 + i, none⟩ by unfold Addr.add; split <;> simp_all] at hc
    rw [hc]
    simp [List.getD_eq_getElem?_getD, hi2]) 9 Tryz.underlying9
  rw [this]
  have HE : strOfNums (l.map fun b : UInt8 => (b.toNat : Int)) = ⟨l.toArray⟩ := by
    have e : (l.map fun b : UInt8 => (b.toNat : Int)).map (fun n : Int => UInt8.ofNat n.toNat) = l := by
      rw [List.map_map]
      exact (List.map_congr_left (fun b _ => by simp)).trans (List.map_id l)
    unfold strOfNums
    rw [e]
  rw [HE]
set_option maxHeartbeats 4000000 in
set_option maxRecDepth 100000 in
theorem quoteD_any (s : By) (w : World) (hs : s.length ≤ 140737488351232) :
    Calls Tryz.prog 13 #[.string ⟨s.toArray⟩] w fun e w' => e = .returned (.tuple #[.string ⟨(quoP s).2.toArray⟩, .int .i64 (quoP s).1]) ∧ Below w.heap.size w w' := by
  have hsz := bs_size s
  obtain ⟨i5, hi5, hz50, hz51, hz52⟩ := info_parts Tryz.info5n
  by_cases hl : 200 < s.length
  · have hl' : (200 : Int) < (s.length : Int) := by omega
    have HQ : Hid (quoP s = (1, [])) := by unfold Hid quoP; rw [if_pos hl]
    go_enter Tryz.func13, Tryz.ntmps13
    go_wp2
    go_ret2
    rw [HQ.out]
    exact ⟨rfl, Below.refl _ _⟩
  · have hl' : ¬ (200 : Int) < (s.length : Int) := by omega
    have HQ : Hid (quoP s = if s.all (fun b => txB (bI b)) = true then (0, 34 :: escL s ++ [34]) else (1, [])) := by unfold Hid quoP; rw [if_neg hl]
    have R0 : Hid (RwB w (w.alloc (.cells #[.int .u8 34] 5)) (.slice (some ⟨w.heap.size, 0, none⟩) 1 1) (34 :: escL (s.take 0))) := ⟨byte_row w 34, al (Below.refl _ _) _⟩
    go_enter Tryz.func13, Tryz.ntmps13
    go_wp2
    go_loopg [4, 5] (s.length + 1) (fun g v x wr => ∃ pos : Nat, x = .int .i64 (pos : Nat) ∧ pos ≤ s.length ∧ Hid (RwB w wr v (34 :: escL (s.take pos))) ∧ Hid (∀ i (hi : i < s.length), i < pos → txB (bI s[i]) = true) ∧ s.length - pos < g)
    case atStart => exact ⟨0, rfl, by omega, R0, fun i _ h => by omega, by omega⟩
    case round =>
      clear R0
      obtain ⟨pos, rfl, hp1, HR, HT, hg⟩ := hrel
      have HG := hide hg
      clear hg
      obtain ⟨va, vc, hv, _⟩ := own_shape HR.out.own
      subst hv
      have hlen : (34 :: escL (s.take pos)).length ≤ 1000 := by have := escL_len (s.take pos); simp at this ⊢; omega
      by_cases hp : pos < s.length
      · have hp' : (pos : Int) < (s.length : Int) := by omega
        obtain ⟨y, hy⟩ : ∃ y, s[pos] = y := ⟨_, rfl⟩
        have hgt : ∀ hk, (⟨s.toArray⟩ : ByteArray)[pos]'hk = y := fun _ => hy
        have HSN : Hid (s.take (pos + 1) = s.take pos ++ [y]) := by unfold Hid; rw [← hy]; exact List.take_succ_eq_append_getElem hp
        have HT2 : Hid (txB (bI y) = true → ∀ i (hi : i < s.length), i < pos + 1 → txB (bI s[i]) = true) := fun h i hi h2 => by
          by_cases h3 : i < pos
          · exact HT.out i hi h3
          · obtain rfl : i = pos := by omega
            rw [hy]; exact h
        have HF : Hid (txB (bI y) = false → s.all (fun b => txB (bI b)) = false) := fun h => by
          rw [List.all_eq_false]
          exact ⟨s[pos], List.getElem_mem hp, by rw [hy]; simp [h]⟩
        clear hy
        by_cases h32 : (y.toNat : Int) < 32
        · have HAL := hide (HF.out (by unfold txB bI; simp; omega))
          go_wp2
          go_ret2
          rw [HQ.out, if_neg (by rw [HAL.out]; decide)]
          exact ⟨rfl, HR.out.bel⟩
        · by_cases h126 : (126 : Int) < (y.toNat : Int)
          · have HAL := hide (HF.out (by unfold txB bI; simp; omega))
            go_wp2
            go_ret2
            rw [HQ.out, if_neg (by rw [HAL.out]; decide)]
            exact ⟨rfl, HR.out.bel⟩
          · have HT3 := hide (HT2.out (by unfold txB bI; simp; omega))
            clear HT2 HF HT
            have HPU : Hid (∀ (V : World) (l : By) (ao : Option Addr) (n cp : Nat) (c : UInt8), RwB w V (.slice ao n cp) l → n = l.length → l.length ≤ 1000 → ((V.alloc (.cells #[.int .u8 (c.toNat : Int)] 5)).ownsRow w.heap.size 5 1 (.slice ao n cp) n (Lib.byteCells l) ∧ w.heap.size ≤ (V.alloc (.cells #[.int .u8 (c.toNat : Int)] 5)).heap.size ∧ ∀ v' w', w'.ownsRow w.heap.size 5 1 v' (n + 1) (Lib.byteCells l ++ [.int .u8 (c.toNat : Int)]) → AppAt (V.alloc (.cells #[.int .u8 (c.toNat : Int)] 5)) w' (.slice ao n cp) v' → ∃ ao' cp', v' = .slice ao' (n + 1) cp' ∧ RwB w w' (.slice ao' (n + 1) cp') (l ++ [c]))) := fun V l ao n cp c h hn hl => by
              subst hn
              have xa := al (Below.refl V.heap.size V) (.cells #[.int .u8 (c.toNat : Int)] 5)
              refine ⟨own_below h.own xa, (bt h.bel xa (Nat.le_refl _)).size, fun v' w' q1 q2 => ?_⟩
              obtain ⟨ao', cp', e, _⟩ := own_shape q1
              subst e
              exact ⟨ao', cp', rfl, h.app xa q1 q2⟩
            have f1 : IntKind.i64.wrap ((pos : Int) + 1) = (pos : Int) + 1 := by rw [show (pos : Int) + 1 = ((pos + 1 : Nat) : Int) by simp]; simp [IntKind.wrap, IntKind.bits, IntKind.signed]; omega
            cases hes : esB (bI y) with
            | false =>
              have HEL : Hid ((34 :: escL (s.take pos)) ++ [y] = 34 :: escL (s.take (pos + 1))) := by
                unfold Hid
                rw [HSN.out, escL_snoc]
                unfold escB
                rw [if_neg (by simp [hes])]
                rfl
              have h34 : ¬ (y.toNat : Int) = 34 := fun e => by unfold esB bI at hes; rw [e] at hes; simp at hes
              have h92 : ¬ (y.toNat : Int) = 92 := fun e => by unfold esB bI at hes; rw [e] at hes; simp at hes
              have b34 : ((y.toNat : Int) == 34) = false := beq_eq_false_iff_ne.2 h34
              have b92 : ((y.toNat : Int) == 92) = false := beq_eq_false_iff_ne.2 h92
              clear hes h34 h92
              obtain ⟨p1, p2, p3⟩ := HPU.out wr _ va _ vc y HR.out rfl hlen
              have P1 := hide p1
              have P2 := hide (byte_new wr y)
              have P3 := hide p2
              have P4 := hide p3
              clear p1 p2 p3
              rw [HEL.out] at P4
              generalize (34 :: escL (s.take pos)) = l at *
              go_wp2_with (at_builtin; refine wpList_append_view rfl (.tmp 39) (.tmp 43) 36 rfl w.heap.size 5 i5 (.int .u8 0) 1 1 Tryz.underlying36 hi5 hz50 hz51 hz52 rfl (by decide) _ l.length _ rfl P1.out ⟨wr.heap.size, 0, none⟩ 1 1 [(.int .u8 (y.toNat : Int))] rfl rfl P2.out (by simp [Value.oneCell']) (by decide) (by unfold maxLen; omega) (by omega) P3.out ?_; intro v6 w6 q1 q2; obtain ⟨ao6, cp6, he6, r6⟩ := P4.out v6 w6 q1 q2; subst he6; have R6 := hide r6; clear q1 q2 r6)
              go_roundg (s.length - (pos + 1) + 1)
              case measure => have := HG.out; omega
              case rel => exact ⟨pos + 1, by first | rfl | go_num | (congr 1; omega), by omega, R6, HT3, by omega⟩
            | true =>
              have HEL : Hid (((34 :: escL (s.take pos)) ++ [92]) ++ [y] = 34 :: escL (s.take (pos + 1))) := by
                unfold Hid
                rw [HSN.out, escL_snoc]
                unfold escB
                rw [if_pos hes]
                simp
              have hor : (y.toNat : Int) = 34 ∨ (y.toNat : Int) = 92 := by unfold esB bI at hes; simpa using hes
              clear hes
              obtain ⟨p1, p2, p3⟩ := HPU.out wr _ va _ vc 92 HR.out rfl hlen
              have P1 : Hid ((wr.alloc (.cells #[.int .u8 92] 5)).ownsRow w.heap.size 5 1 (.slice va (34 :: escL (s.take pos)).length vc) (34 :: escL (s.take pos)).length (Lib.byteCells (34 :: escL (s.take pos)))) := p1
              have P2 : Hid (∀ (j : Nat) (u : Value), [Value.int .u8 92][j]? = some u → (wr.alloc (.cells #[.int .u8 92] 5)).cell? ((⟨wr.heap.size, 0, none⟩ : Addr).add j) = some u) := byte_new wr 92
              have P3 : Hid (w.heap.size ≤ (wr.alloc (.cells #[.int .u8 92] 5)).heap.size) := p2
              have P4 : Hid (∀ v' w', w'.ownsRow w.heap.size 5 1 v' ((34 :: escL (s.take pos)).length + 1) (Lib.byteCells (34 :: escL (s.take pos)) ++ [.int .u8 92]) → AppAt (wr.alloc (.cells #[.int .u8 92] 5)) w' (.slice va (34 :: escL (s.take pos)).length vc) v' → ∃ ao' cp', v' = .slice ao' ((34 :: escL (s.take pos)).length + 1) cp' ∧ RwB w w' (.slice ao' ((34 :: escL (s.take pos)).length + 1) cp') ((34 :: escL (s.take pos)) ++ [92])) := p3
              clear p1 p2 p3
              have hl2 : ((34 :: escL (s.take pos)) ++ [92]).length ≤ 1000 := by have := escL_len (s.take pos); simp at this ⊢; omega
              generalize (34 :: escL (s.take pos)) = l at *
              have hl3 : (l ++ [(92 : UInt8)]).length = l.length + 1 := by simp
              have HOR : Hid (((y.toNat : Int) == 34) = true ∨ ((y.toNat : Int) == 34) = false ∧ ((y.toNat : Int) == 92) = true) := by
                rcases hor with h | h
                · exact .inl (by simp [h])
                · exact .inr ⟨by simp [h], by simp [h]⟩
              clear hor
              rcases HOR.out with b34 | ⟨b34, b92⟩
              all_goals
                go_upto_region 11 with (at_builtin; refine wpList_append_view rfl (.tmp 36) (.tmp 37) 36 rfl w.heap.size 5 i5 (.int .u8 0) 1 1 Tryz.underlying36 hi5 hz50 hz51 hz52 rfl (by decide) _ l.length _ rfl P1.out ⟨wr.heap.size, 0, none⟩ 1 1 [(.int .u8 92)] rfl rfl P2.out (by simp [Value.oneCell']) (by decide) (by unfold maxLen; omega) (by omega) P3.out ?_; intro v6 w6 q1 q2; obtain ⟨ao6, cp6, he6, r6⟩ := P4.out v6 w6 q1 q2; subst he6; have R6 := hide r6; clear q1 q2 r6)
                obtain ⟨p1, p2, p3⟩ := HPU.out w6 _ ao6 _ cp6 y R6.out hl3.symm hl2
                have S1 := hide p1
                have S2 := hide (byte_new w6 y)
                have S3 := hide p2
                have S4 := hide p3
                clear p1 p2 p3
                rw [HEL.out] at S4
                go_wp2_with (at_builtin; refine wpList_append_view rfl (.tmp 39) (.tmp 43) 36 rfl w.heap.size 5 i5 (.int .u8 0) 1 1 Tryz.underlying36 hi5 hz50 hz51 hz52 rfl (by decide) _ (l.length + 1) _ rfl S1.out ⟨w6.heap.size, 0, none⟩ 1 1 [(.int .u8 (y.toNat : Int))] rfl rfl S2.out (by simp [Value.oneCell']) (by decide) (by unfold maxLen; omega) (by omega) S3.out ?_; intro v7 w7 q1 q2; obtain ⟨ao7, cp7, he7, r7⟩ := S4.out v7 w7 q1 q2; subst he7; have R7 := hide r7; clear q1 q2 r7)
                go_roundg (s.length - (pos + 1) + 1)
                case measure => have := HG.out; omega
                case rel => exact ⟨pos + 1, by first | rfl | go_num | (congr 1; omega), by omega, R7, HT3, by omega⟩
      · obtain rfl : pos = s.length := by omega
        have hp' : ¬ (s.length : Int) < (s.length : Int) := by omega
        have HAL : Hid (s.all (fun b => txB (bI b)) = true) := by
          unfold Hid
          rw [List.all_eq_true]
          intro b hb
          obtain ⟨i, hi, rfl⟩ := List.getElem_of_mem hb
          exact HT.out i hi hi
        have R1 := HR.out
        rw [List.take_length] at R1 hlen
        rw [List.take_length]
        have xa := al (Below.refl wr.heap.size wr) (.cells #[.int .u8 34] 5)
        have P1 : Hid ((wr.alloc (.cells #[.int .u8 34] 5)).ownsRow w.heap.size 5 1 (.slice va (34 :: escL s).length vc) (34 :: escL s).length (Lib.byteCells (34 :: escL s))) := own_below R1.own xa
        have P2 : Hid (∀ (j : Nat) (u : Value), [Value.int .u8 34][j]? = some u → (wr.alloc (.cells #[.int .u8 34] 5)).cell? ((⟨wr.heap.size, 0, none⟩ : Addr).add j) = some u) := byte_new wr 34
        have P3 : Hid (w.heap.size ≤ (wr.alloc (.cells #[.int .u8 34] 5)).heap.size) := (bt R1.bel xa (Nat.le_refl _)).size
        have P4 : Hid (∀ v' w', w'.ownsRow w.heap.size 5 1 v' ((34 :: escL s).length + 1) (Lib.byteCells (34 :: escL s) ++ [.int .u8 34]) → AppAt (wr.alloc (.cells #[.int .u8 34] 5)) w' (.slice va (34 :: escL s).length vc) v' → ∃ g' cp', v' = .slice (some ⟨g', 0, none⟩) ((34 :: escL s).length + 1) cp' ∧ Below w.heap.size w w' ∧ (convert 36 9 (.slice (some ⟨g', 0, none⟩) ((34 :: escL s).length + 1) cp')).run Tryz.prog w' = .ok (.string ⟨(34 :: escL s ++ [34]).toArray⟩) w') := fun v' w' q1 q2 => by
          have r := R1.app (c := 34) xa q1 q2
          obtain ⟨ao', cp', e, hg⟩ := own_shape q1
          obtain ⟨g', e2⟩ := hg (by omega)
          subst e e2
          refine ⟨g', cp', rfl, r.bel, ?_⟩
          have := conv_bytes w' g' cp' (34 :: escL s ++ [34]) w.heap.size (by simpa using r.own)
          simpa using this
        clear R1 xa HR HT
        generalize hL : (34 :: escL s) = l at *
        go_wp2_with (at_builtin; refine wpList_append_view rfl (.tmp 45) (.tmp 46) 36 rfl w.heap.size 5 i5 (.int .u8 0) 1 1 Tryz.underlying36 hi5 hz50 hz51 hz52 rfl (by decide) _ l.length _ rfl P1.out ⟨wr.heap.size, 0, none⟩ 1 1 [(.int .u8 34)] rfl rfl P2.out (by simp [Value.oneCell']) (by decide) (by unfold maxLen; omega) (by omega) P3.out ?_; intro v6 w6 q1 q2; obtain ⟨g6, cp6, he6, x6, hcv⟩ := P4.out v6 w6 q1 q2; subst he6; have X6 := hide x6; clear q1 q2 x6)
        go_ret2
        rw [HQ.out, if_pos HAL.out]
        exact ⟨rfl, X6.out⟩
end Go.Proofs.YtkpdbbbeagnjpaaGreatDoor
/-
  A row of bytes that grows by texts. No condition.
-/
namespace Go.Proofs.YtkpdbbbeagnjpaaGreatDoor
open Go.RowKit Go.Lib

theorem RwB.nil (w0 w : World) (x : Below w0.heap.size w0 w) : RwB w0 w (.slice none 0 0) [] := ⟨World.ownsRow_nil _ _ _ _, x⟩
theorem RwB.grown {w0 w w5 w' : World} {v v' : Value} {l u : By} (h : RwB w0 w v l) (x : Below w.heap.size w w5) (h1 : w'.ownsRow w0.heap.size 5 1 v' (l.length + u.length) (Lib.byteCells l ++ Lib.byteCells u)) (h2 : w5.grownBy w' v.ownBlock) : RwB w0 w' v' (l ++ u) := by
  refine ⟨by have e : Lib.byteCells (l ++ u) = Lib.byteCells l ++ Lib.byteCells u := (by simp [Lib.byteCells]); rw [e, List.length_append]; exact h1, ?_⟩
  refine (bt h.bel x (Nat.le_refl _)).trans ((kept_of_grown h2).below (bt h.bel x (Nat.le_refl _)).size (fun i hi => ?_))
  exact (World.ownsRow.lt h.own i hi).1
theorem RwB.appL {w0 w w5 w' : World} {v v' : Value} {l u : By} (h : RwB w0 w v l) (x : Below w.heap.size w w5) (h1 : w'.ownsRow w0.heap.size 5 1 v' (l.length + u.length) (Lib.byteCells l ++ Lib.byteCells u)) (h2 : AppAt w5 w' v v') : RwB w0 w' v' (l ++ u) := by
  refine ⟨by have e : Lib.byteCells (l ++ u) = Lib.byteCells l ++ Lib.byteCells u := (by simp [Lib.byteCells]); rw [e, List.length_append]; exact h1, ?_⟩
  rcases h2 with ⟨g, g1, g2, g3⟩ | ⟨g1, g2⟩
  · have hg := (World.ownsRow.lt h.own g g1).1
    exact (bt h.bel x (Nat.le_refl _)).trans ((kept_of_grown g3).below (bt h.bel x (Nat.le_refl _)).size (fun i hi => by have : g = i := (by simpa using hi); omega))
  · exact bt (bt h.bel x (Nat.le_refl _)) (below_of_grown g1) (Nat.le_refl _)
theorem RwB.conv {w0 w : World} {v : Value} {l : By} (h : RwB w0 w v l) : (convert 36 9 v).run Tryz.prog w = .ok (.string ⟨l.toArray⟩) w := by
  rcases h.own.2 with ⟨rfl, e⟩ | ⟨g, cap, cur, rfl, _⟩
  · have : l = [] := List.eq_nil_of_length_eq_zero e
    subst this
    exact run_convert_bytes_nil w 36 5 Tryz.underlying36 Tryz.underlying5 0 0 9 Tryz.underlying9
  · exact conv_bytes w g cap l _ h.own
theorem str_cells (l : By) : Lib.strCells ⟨l.toArray⟩ = Lib.byteCells l := by
  unfold Lib.strCells Lib.byteCells
  simp
theorem step_append_string {P : Program} {w : World} {ops : Array Oper} {o : Oper} {a : Act} {K : Act → World → Prop} {Q : Exit → Act → World → Prop} {E : Prop} (hgd : o.guard = none) (sl x : Operand) (t u : TypeId)
    (ho : o.op = .call { callee := .builtin .append, args := #[sl, x], argTypes := #[t, u] })
    (base : Nat) (e : TypeId) (i : TypeInfo) (ht : P.underlying t = some (.slice e)) (hu : P.underlying u = some .string) (hi : P.info? e = some i) (hz : i.zero = some (.int .u8 0))
    (hsize : i.size = 1) (hby : i.bytes = 1)
    (v : Value) (n : Nat) (xs : List Value) (hs : a.eval sl = v) (hown : w.ownsRow base e 1 v n xs) (s : ByteArray) (hx : a.eval x = .string s)
    (h63 : n + s.size ≤ maxLen) (hbytes : n + s.size ≤ 140737488355328) (hbase : base ≤ w.heap.size)
    (h : ∀ v' w', w'.ownsRow base e 1 v' (n + s.size) (xs ++ strCells s) → w.grownBy w' v.ownBlock → K (a.put o.dst v') w') :
    if Region.wanted o (yielded ops a.tmps) = true then Oper.wp P o a w K Q else E := by
  have hw : Region.wanted o (yielded ops a.tmps) = true := by simp [Region.wanted, hgd]
  rw [if_pos hw]
  obtain ⟨v', w', hr, h2, h3, h4⟩ := run_append_own_string (P := P) w base t u o.type e i ht hu hi hz hsize hby v n xs hown s h63 hbytes hbase
  unfold Oper.wp execOp
  simp only [ho, resolve, invoke, builtin, Sem.run_bind, Sem.run_pure, Result.andThen_ok, List.map_toArray, List.map_cons, List.map_nil, hs, hx, hr]
  exact h v' w' h2 h3
end Go.Proofs.YtkpdbbbeagnjpaaGreatDoor
