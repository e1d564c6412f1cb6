/-
  The document's text by its contract. Condition: a source of at most 8000 bytes.
-/
import Derived.Test.YtkpdbbbeagnjpaaGreatDoorQ29
import Derived.Test.YtkpdbbbeagnjpaaGreatDoorQ31
import Derived.Test.YtkpdbbbeagnjpaaGreatDoorQ06
import Derived.Laws.StructEq
namespace Go.Proofs.YtkpdbbbeagnjpaaGreatDoor
open Go.RowKit Go.Lib

/-- What text tells. -/
def TxD (s : By) (q : Nat) (e : Ending) : Prop := ∃ (t : By) (n : Int) (b : Bool), e = .returned (.tuple #[.string ⟨t.toArray⟩, .int .i64 n, .bool b]) ∧ match txL [] (s.drop (q + 1)) with
  | some (m, k) => t = m ∧ n = ((q + 1 + k : Nat) : Int) ∧ b = true
  | none => b = false
/-- How far text has come. -/
def TxI (s : By) (q i : Nat) (acc : By) : Prop := txL [] (s.drop (q + 1)) = (txL acc (s.drop i)).map (fun p => (p.1, p.2 + (i - (q + 1)))) ∧ q + 1 ≤ i ∧ i ≤ s.length ∧ acc.length ≤ i
theorem TxI.none {s : By} {q i : Nat} {acc : By} (h : TxI s q i acc) (h2 : txL acc (s.drop i) = none) (t : By) (n : Int) {e : Ending} (he : e = .returned (.tuple #[.string ⟨t.toArray⟩, .int .i64 n, .bool false])) : TxD s q e := by
  refine ⟨t, n, false, he, ?_⟩
  rw [h.1, h2]
  rfl
theorem TxI.stop {s : By} {q : Nat} {acc : By} (h : TxI s q s.length acc) {e : Ending} (he : e = .returned (.tuple #[.string ⟨#[]⟩, .int .i64 0, .bool false])) : TxD s q e := by
  refine h.none ?_ [] 0 he
  rw [List.drop_length, txL]
theorem TxI.quote {s : By} {q i : Nat} {acc : By} (h : TxI s q i acc) (hi : i < s.length) (hy : s[i] = 34) {e : Ending} (he : e = .returned (.tuple #[.string ⟨acc.toArray⟩, .int .i64 ((i : Int) + 1), .bool (decide ((acc.length : Int) ≤ 200))])) : TxD s q e := by
  have hx : txL acc (s.drop i) = if acc.length ≤ 200 then some (acc, 1) else Option.none := by
    rw [List.drop_eq_getElem_cons hi, txL.eq_def]
    simp only
    rw [if_pos hy]
  by_cases h2 : acc.length ≤ 200
  · rw [if_pos h2] at hx
    refine ⟨acc, (i : Int) + 1, true, by rw [he, decide_eq_true (by omega)], ?_⟩
    rw [h.1, hx]
    refine ⟨rfl, ?_, rfl⟩
    have := h.2.1
    show (i : Int) + 1 = ((q + 1 + (1 + (i - (q + 1))) : Nat) : Int)
    omega
  · rw [if_neg h2] at hx
    exact h.none hx acc _ (by rw [he, decide_eq_false (by omega)])
theorem TxI.wrong {s : By} {q i : Nat} {acc : By} (h : TxI s q i acc) (hi : i < s.length) (h34 : s[i] ≠ 34) (ht : txB (bI s[i]) ≠ true) {e : Ending} (he : e = .returned (.tuple #[.string ⟨#[]⟩, .int .i64 0, .bool false])) : TxD s q e := by
  refine h.none ?_ [] 0 he
  rw [List.drop_eq_getElem_cons hi, txL.eq_def]
  simp only
  rw [if_neg h34, if_neg ht]
theorem TxI.last {s : By} {q i : Nat} {acc : By} (h : TxI s q i acc) (hi : i + 1 = s.length) (hy : s[i] = 92) {e : Ending} (he : e = .returned (.tuple #[.string ⟨#[]⟩, .int .i64 0, .bool false])) : TxD s q e := by
  refine h.none ?_ [] 0 he
  rw [List.drop_eq_getElem_cons (by omega), hi, List.drop_length, txL.eq_def]
  simp only
  rw [if_neg (by rw [hy]; decide), if_pos (by rw [hy]; decide), if_pos hy]
theorem TxI.noesc {s : By} {q i : Nat} {acc : By} (h : TxI s q i acc) (hi : i + 1 < s.length) (hy : s[i] = 92) (hz : esB (bI s[i + 1]) ≠ true) {e : Ending} (he : e = .returned (.tuple #[.string ⟨#[]⟩, .int .i64 0, .bool false])) : TxD s q e := by
  refine h.none ?_ [] 0 he
  rw [List.drop_eq_getElem_cons (by omega), List.drop_eq_getElem_cons hi, txL.eq_def]
  simp only
  rw [if_neg (by rw [hy]; decide), if_pos (by rw [hy]; decide), if_pos hy, if_neg hz]
theorem TxI.esc {s : By} {q i : Nat} {acc : By} (h : TxI s q i acc) (hi : i + 1 < s.length) (hy : s[i] = 92) (hz : esB (bI s[i + 1]) = true) : TxI s q (i + 2) (acc ++ [s[i + 1]]) := by
  have h2 := h.2.1
  refine ⟨?_, by omega, by omega, by have := h.2.2.2; simp; omega⟩
  rw [h.1, List.drop_eq_getElem_cons (by omega), List.drop_eq_getElem_cons hi, txL.eq_def]
  simp only
  rw [if_neg (by rw [hy]; decide), if_pos (by rw [hy]; decide), if_pos hy, if_pos hz, Option.map_map]
  congr 1
  funext p
  simp only [Function.comp]
  congr 1
  omega
theorem TxI.go {s : By} {q i : Nat} {acc : By} (h : TxI s q i acc) (hi : i < s.length) (h34 : s[i] ≠ 34) (h92 : s[i] ≠ 92) (ht : txB (bI s[i]) = true) : TxI s q (i + 1) (acc ++ [s[i]]) := by
  have h2 := h.2.1
  refine ⟨?_, by omega, by omega, by have := h.2.2.2; simp; omega⟩
  rw [h.1, List.drop_eq_getElem_cons hi, txL.eq_def]
  simp only
  rw [if_neg h34, if_pos ht, if_neg h92, Option.map_map]
  congr 1
  funext p
  simp only [Function.comp]
  congr 1
  omega
theorem TxI.start (s : By) (q : Nat) (hq : q < s.length) : TxI s q (q + 1) [] := by
  refine ⟨?_, by omega, by omega, by simp⟩
  cases txL [] (s.drop (q + 1)) with
  | none => rfl
  | some p => simp
set_option maxHeartbeats 1000000 in
set_option maxRecDepth 100000 in
theorem textD_any (s : By) (hs : s.length ≤ 8000) (q : Nat) (hq : q < s.length) (w : World) :
    Calls Tryz.prog 41 #[.string ⟨s.toArray⟩, .int .i64 (q : Int)] w fun e w' => TxD s q e ∧ Below w.heap.size w w' := by
  have hsz := bs_size s
  obtain ⟨i5, hi5, hz50, hz51, hz52⟩ := info_parts Tryz.info5n
  have f0 : IntKind.i64.wrap ((q : Int) + 1) = (q : Int) + 1 := by rw [show (q : Int) + 1 = ((q + 1 : Nat) : Int) by simp]; simp [IntKind.wrap, IntKind.bits, IntKind.signed]; omega
  have R0 := hide (RwB.nil w w (Below.refl _ _))
  have I0 := hide (TxI.start s q hq)
  go_enter Tryz.func41, Tryz.ntmps41
  go_wp2
  go_loopg [7, 8, 9] (s.length + 2) (fun g v x _ wr => ∃ (i : Nat) (acc : By), x = .int .i64 (i : Nat) ∧ i ≤ s.length ∧ Hid (RwB w wr v acc) ∧ Hid (TxI s q i acc) ∧ s.length - i < g)
  case atStart => exact ⟨q + 1, [], by first | rfl | go_num | (congr 1; omega), by omega, R0, I0, by omega⟩
  case round =>
    clear R0 I0
    obtain ⟨i, acc, rfl, hi1, HR, HI, hg⟩ := hrel
    have HG := hide hg
    clear hg
    obtain ⟨va, vc, hv, _⟩ := own_shape HR.out.own
    subst hv
    have hacc : acc.length ≤ 8000 := by have := HI.out.2.2.2; omega
    by_cases hi : i < s.length
    · have hi' : (i : Int) < (s.length : Int) := by omega
      have f1 : IntKind.i64.wrap ((i : Int) + 1) = (i : Int) + 1 := by rw [show (i : Int) + 1 = ((i + 1 : Nat) : Int) by simp]; simp [IntKind.wrap, IntKind.bits, IntKind.signed]; omega
      obtain ⟨y, hy⟩ : ∃ y, s[i] = y := ⟨_, rfl⟩
      have hgt : ∀ hk, (⟨s.toArray⟩ : ByteArray)[i]'hk = y := fun _ => hy
      have HPU : Hid (∀ (c : UInt8), ((wr.alloc (.cells #[.int .u8 (c.toNat : Int)] 5)).ownsRow w.heap.size 5 1 (.slice va acc.length vc) acc.length (Lib.byteCells acc) ∧ w.heap.size ≤ (wr.alloc (.cells #[.int .u8 (c.toNat : Int)] 5)).heap.size ∧ ∀ v' w', w'.ownsRow w.heap.size 5 1 v' (acc.length + 1) (Lib.byteCells acc ++ [.int .u8 (c.toNat : Int)]) → AppAt (wr.alloc (.cells #[.int .u8 (c.toNat : Int)] 5)) w' (.slice va acc.length vc) v' → RwB w w' v' (acc ++ [c]))) := fun c => by
        have xa := al (Below.refl wr.heap.size wr) (.cells #[.int .u8 (c.toNat : Int)] 5)
        exact ⟨own_below HR.out.own xa, (bt HR.out.bel xa (Nat.le_refl _)).size, fun v' w' q1 q2 => HR.out.appL xa (u := [c]) q1 q2⟩
      by_cases h34 : y = 34
      · subst h34
        have hcv := HR.out.conv
        go_wp2
        refine bodyPost_ret (by simp [results, Tryz.results41, go_sem]; rfl) rfl ?_
        exact ⟨HI.out.quote hi hy rfl, HR.out.bel⟩
      · have n34 : ¬ (y.toNat : Int) = 34 := fun e => h34 (UInt8.toNat_inj.1 (by show y.toNat = 34; omega))
        have b34 : ((y.toNat : Int) == 34) = false := beq_eq_false_iff_ne.2 n34
        by_cases h32 : (y.toNat : Int) < 32
        · have HW := hide (fun e he => HI.out.wrong hi (by rw [hy]; exact h34) (by rw [hy]; unfold txB bI; simp; omega) (e := e) he)
          go_wp2
          refine bodyPost_ret (by simp [results, Tryz.results41, go_sem]; rfl) rfl ?_
          exact ⟨HW.out _ rfl, HR.out.bel⟩
        · by_cases h126 : (126 : Int) < (y.toNat : Int)
          · have HW := hide (fun e he => HI.out.wrong hi (by rw [hy]; exact h34) (by rw [hy]; unfold txB bI; simp; omega) (e := e) he)
            go_wp2
            refine bodyPost_ret (by simp [results, Tryz.results41, go_sem]; rfl) rfl ?_
            exact ⟨HW.out _ rfl, HR.out.bel⟩
          · by_cases h92 : y = 92
            · subst h92
              by_cases hl : i + 1 = s.length
              · have hl' : (i : Int) + 1 = (s.length : Int) := by omega
                have hlb : ((i : Int) + 1 == (s.length : Int)) = true := by simp [hl']
                have HW := hide (fun e he => HI.out.last hl hy (e := e) he)
                go_wp2
                refine bodyPost_ret (by simp [results, Tryz.results41, go_sem]; rfl) rfl ?_
                exact ⟨HW.out _ rfl, HR.out.bel⟩
              · have hl2 : i + 1 < s.length := by omega
                have hl' : ¬ (i : Int) + 1 = (s.length : Int) := by omega
                have hlb : ((i : Int) + 1 == (s.length : Int)) = false := by simp [hl']
                have hl3 : (i : Int) + 1 < (s.length : Int) := by omega
                have t1 : ((i : Int) + 1).toNat = i + 1 := by omega
                have t2 : (0 : Int) ≤ (i : Int) + 1 := by omega
                have f2 : IntKind.i64.wrap ((i : Int) + 1 + 1) = (i : Int) + 1 + 1 := by rw [show (i : Int) + 1 + 1 = ((i + 2 : Nat) : Int) by omega]; simp [IntKind.wrap, IntKind.bits, IntKind.signed]; omega
                obtain ⟨z, hz⟩ : ∃ z, s[i + 1] = z := ⟨_, rfl⟩
                have hgz : ∀ hk, (⟨s.toArray⟩ : ByteArray)[i + 1]'hk = z := fun _ => hz
                cases hes : esB (bI z) with
                | false =>
                  have HW := hide (fun e he => HI.out.noesc hl2 hy (by rw [hz, hes]; decide) (e := e) he)
                  have m34 : ¬ (z.toNat : Int) = 34 := fun e => by unfold esB bI at hes; rw [e] at hes; simp at hes
                  have m92 : ¬ (z.toNat : Int) = 92 := fun e => by unfold esB bI at hes; rw [e] at hes; simp at hes
                  have c34 : ((z.toNat : Int) == 34) = false := beq_eq_false_iff_ne.2 m34
                  have c92 : ((z.toNat : Int) == 92) = false := beq_eq_false_iff_ne.2 m92
                  have d34 : ((z.toNat : Int) != 34) = true := by simpa using m34
                  have d92 : ((z.toNat : Int) != 92) = true := by simpa using m92
                  clear hes
                  go_wp2
                  refine bodyPost_ret (by simp [results, Tryz.results41, go_sem]; rfl) rfl ?_
                  exact ⟨HW.out _ rfl, HR.out.bel⟩
                | true =>
                  have HE := hide (HI.out.esc hl2 hy (by rw [hz]; exact hes))
                  rw [hz] at HE
                  obtain ⟨p1, p2, p3⟩ := HPU.out z
                  have P1 := hide p1
                  have P2 := hide (byte_new wr z)
                  have P3 := hide p2
                  have P4 := hide p3
                  clear p1 p2 p3 HPU HI
                  have HOR : Hid (z = 34 ∨ z = 92) := by
                    unfold esB bI at hes
                    simp only [Bool.or_eq_true, decide_eq_true_eq] at hes
                    rcases hes with h | h
                    · exact .inl (UInt8.toNat_inj.1 (by show z.toNat = 34; omega))
                    · exact .inr (UInt8.toNat_inj.1 (by show z.toNat = 92; omega))
                  clear hes
                  rcases HOR.out with h | h
                  all_goals
                    subst h
                    go_wp2_with (at_builtin; refine wpList_append_view rfl (.tmp 62) (.tmp 64) 36 rfl w.heap.size 5 i5 (.int .u8 0) 1 1 Tryz.underlying36 hi5 hz50 hz51 hz52 rfl (by decide) _ acc.length _ rfl P1.out ⟨wr.heap.size, 0, none⟩ 1 1 _ rfl rfl P2.out (by simp [Value.oneCell']) (by decide) (by unfold maxLen; omega) (by omega) P3.out ?_; intro v6 w6 q1 q2; have R6 := hide (P4.out v6 w6 q1 q2); clear q1 q2)
                    go_roundg (s.length - (i + 2) + 1)
                    case measure => have := HG.out; omega
                    case rel => exact ⟨i + 2, _, by first | rfl | go_num | (congr 1; omega), by omega, R6, HE, by omega⟩
            · have n92 : ¬ (y.toNat : Int) = 92 := fun e => h92 (UInt8.toNat_inj.1 (by show y.toNat = 92; omega))
              have b92 : ((y.toNat : Int) == 92) = false := beq_eq_false_iff_ne.2 n92
              have HE := hide (HI.out.go hi (by rw [hy]; exact h34) (by rw [hy]; exact h92) (by rw [hy]; unfold txB bI; simp; omega))
              rw [hy] at HE
              obtain ⟨p1, p2, p3⟩ := HPU.out y
              have P1 := hide p1
              have P2 := hide (byte_new wr y)
              have P3 := hide p2
              have P4 := hide p3
              clear p1 p2 p3 HPU HI h92 h34
              go_wp2_with (at_builtin; refine wpList_append_view rfl (.tmp 62) (.tmp 64) 36 rfl w.heap.size 5 i5 (.int .u8 0) 1 1 Tryz.underlying36 hi5 hz50 hz51 hz52 rfl (by decide) _ acc.length _ rfl P1.out ⟨wr.heap.size, 0, none⟩ 1 1 _ rfl rfl P2.out (by simp [Value.oneCell']) (by decide) (by unfold maxLen; omega) (by omega) P3.out ?_; intro v6 w6 q1 q2; have R6 := hide (P4.out v6 w6 q1 q2); clear q1 q2)
              go_roundg (s.length - (i + 1) + 1)
              case measure => have := HG.out; omega
              case rel => exact ⟨i + 1, _, by first | rfl | go_num | (congr 1; omega), by omega, R6, HE, by omega⟩
    · obtain rfl : i = s.length := by omega
      have hi' : ¬ (s.length : Int) < (s.length : Int) := by omega
      go_wp2
      refine bodyPost_ret (by simp [results, Tryz.results41, go_sem]; rfl) rfl ?_
      exact ⟨HI.out.stop rfl, HR.out.bel⟩
end Go.Proofs.YtkpdbbbeagnjpaaGreatDoor
/-
  A token in a cell of six. No condition.
-/
namespace Go.Proofs.YtkpdbbbeagnjpaaGreatDoor
open Go.RowKit Go.Lib

theorem six_set {w : World} {b : Nat} {a0 a1 a2 a3 a4 a5 : Value} {T : TypeId} (h : w.heap[b]? = some (.cells #[a0, a1, a2, a3, a4, a5] T (0, 0))) (u0 u1 u2 u3 u4 u5 : Value) :
    ((((((w.setCell ⟨b, 0, none⟩ u0).setCell ⟨b, 1, none⟩ u1).setCell ⟨b, 2, none⟩ u2).setCell ⟨b, 3, none⟩ u3).setCell ⟨b, 4, none⟩ u4).setCell ⟨b, 5, none⟩ u5).heap[b]? = some (.cells #[u0, u1, u2, u3, u4, u5] T (0, 0)) :=
  block_setCell' (block_setCell' (block_setCell' (block_setCell' (block_setCell' (block_setCell' h 0 u0) 1 u1) 2 u2) 3 u3) 4 u4) 5 u5
theorem six_get {w : World} {b : Nat} {a0 a1 a2 a3 a4 a5 : Value} {T : TypeId} (h : w.heap[b]? = some (.cells #[a0, a1, a2, a3, a4, a5] T (0, 0))) :
    (w.cell? ⟨b, 0, none⟩ = some a0 ∧ w.cell? ⟨b, 1, none⟩ = some a1 ∧ w.cell? ⟨b, 2, none⟩ = some a2 ∧ w.cell? ⟨b, 3, none⟩ = some a3 ∧ w.cell? ⟨b, 4, none⟩ = some a4 ∧ w.cell? ⟨b, 5, none⟩ = some a5) :=
  ⟨by rw [cell_of_row w b 0 _ _ _ h]; rfl, by rw [cell_of_row w b 1 _ _ _ h]; rfl, by rw [cell_of_row w b 2 _ _ _ h]; rfl, by rw [cell_of_row w b 3 _ _ _ h]; rfl, by rw [cell_of_row w b 4 _ _ _ h]; rfl, by rw [cell_of_row w b 5 _ _ _ h]; rfl⟩
end Go.Proofs.YtkpdbbbeagnjpaaGreatDoor
/-
  A token held against itself; bare by its contract. No condition.
-/
namespace Go.Proofs.YtkpdbbbeagnjpaaGreatDoor
open Go.RowKit Go.Lib

theorem fields40 : Tryz.prog.fieldsOf 40 = #[⟨"Kind", 3, 0, false, "", "", 0⟩, ⟨"Text", 9, 1, false, "", "", 8⟩, ⟨"Number", 3, 2, false, "", "", 24⟩, ⟨"Prefix", 38, 3, false, "", "", 32⟩, ⟨"At", 3, 5, false, "", "", 48⟩] := by kernel_rfl
theorem fields38 : Tryz.prog.fieldsOf 38 = #[⟨"Addr", 3, 0, false, "", "", 0⟩, ⟨"Bits", 3, 1, false, "", "", 8⟩] := by kernel_rfl
theorem und40 : Tryz.prog.underlying 40 = some (.struct (Tryz.prog.fieldsOf 40)) := by kernel_rfl
theorem und38 : Tryz.prog.underlying 38 = some (.struct (Tryz.prog.fieldsOf 38)) := by kernel_rfl
theorem held40 : Tryz.prog.stoodInHeld 40 = false := by kernel_rfl
theorem held38 : Tryz.prog.stoodInHeld 38 = false := by kernel_rfl
theorem eq38 (n : Nat) (a b : Int) (w : World) : (Op.equalIn (n + 1 + 1) 38 (.agg #[.int .i64 a, .int .i64 b]) (.agg #[.int .i64 a, .int .i64 b])).run Tryz.prog w = .ok true w := by
  have h3 : ∀ (x : Int) w, (Op.equalIn (n + 1) 3 (.int .i64 x) (.int .i64 x)).run Tryz.prog w = .ok true w := fun x w => by rw [run_equalIn_int w n 3 .i64 .i64 x x Tryz.underlying3]; simp
  have p0 : ∀ w, (part 3 #[.int .i64 a, .int .i64 b] 0).run Tryz.prog w = .ok (.int .i64 a) w := fun w => by kernel_rfl
  have p1 : ∀ w, (part 3 #[.int .i64 a, .int .i64 b] 1).run Tryz.prog w = .ok (.int .i64 b) w := fun w => by kernel_rfl
  rw [run_equalIn_struct w (n + 1) 38 _ _ und38 held38, fields38]
  simp [Op.eqFields, Sem.run_bind, p0, p1, h3]
theorem eq40 (x : Tk) (w : World) : (Op.equalIn 10000 40 (.agg (tkV x)) (.agg (tkV x))).run Tryz.prog w = .ok true w := by
  have h3 : ∀ (x : Int) w, (Op.equalIn 9999 3 (.int .i64 x) (.int .i64 x)).run Tryz.prog w = .ok true w := fun x w => by rw [show (9999 : Nat) = 9998 + 1 from rfl, run_equalIn_int w 9998 3 .i64 .i64 x x Tryz.underlying3]; simp
  have h9 : ∀ (x : ByteArray) w, (Op.equalIn 9999 9 (.string x) (.string x)).run Tryz.prog w = .ok true w := fun x w => by rw [show (9999 : Nat) = 9998 + 1 from rfl, run_equalIn_string w 9998 9 x x Tryz.underlying9]; simp
  have h38 : ∀ (a b : Int) w, (Op.equalIn 9999 38 (.agg #[.int .i64 a, .int .i64 b]) (.agg #[.int .i64 a, .int .i64 b])).run Tryz.prog w = .ok true w := fun a b w => eq38 9997 a b w
  have p0 : ∀ w, (part 3 (tkV x) 0).run Tryz.prog w = .ok (.int .i64 x.k) w := fun w => by kernel_rfl
  have p1 : ∀ w, (part 9 (tkV x) 1).run Tryz.prog w = .ok (.string ⟨x.t.toArray⟩) w := fun w => by kernel_rfl
  have p2 : ∀ w, (part 3 (tkV x) 2).run Tryz.prog w = .ok (.int .i64 x.n) w := fun w => by kernel_rfl
  have p3 : ∀ w, (part 38 (tkV x) 3).run Tryz.prog w = .ok (.agg #[.int .i64 x.a, .int .i64 x.b]) w := fun w => by kernel_rfl
  have p5 : ∀ w, (part 3 (tkV x) 5).run Tryz.prog w = .ok (.int .i64 x.p) w := fun w => by kernel_rfl
  rw [show (10000 : Nat) = 9999 + 1 from rfl, run_equalIn_struct w 9999 40 _ _ und40 held40, fields40]
  simp [Op.eqFields, Sem.run_bind, p0, p1, p2, p3, p5, h3, h9, h38]
/-- A token without its place. -/
def bareT (x : Tk) : Tk := { x with p := 0 }
set_option maxHeartbeats 1000000 in
theorem bare_any (x : Tk) (w : World) : Calls Tryz.prog 32 #[.agg (tkV x)] w fun e w' => e = .returned (.agg (tkV (bareT x))) ∧ Below w.heap.size w w' := by
  unfold tkV bareT
  go_enter Tryz.func32, Tryz.ntmps32
  go_wp2
  obtain ⟨r0, r1, r2, r3, r4, r5⟩ := six_get (heap_alloc_new (w.alloc (.cells #[.int .i64 x.k, .string ⟨x.t.toArray⟩, .int .i64 x.n, .int .i64 x.a, .int .i64 x.b, .int .i64 0] 40)) (.cells #[.int .i64 x.k, .string ⟨x.t.toArray⟩, .int .i64 x.n, .int .i64 x.a, .int .i64 x.b, .int .i64 0] 40))
  rw [show (w.alloc (.cells #[.int .i64 x.k, .string ⟨x.t.toArray⟩, .int .i64 x.n, .int .i64 x.a, .int .i64 x.b, .int .i64 0] 40)).heap.size = w.heap.size + 1 by simp] at r0 r1 r2 r3 r4 r5
  refine bodyPost_ret (by simp [results, Tryz.results32, go_sem, r0, r1, r2, r3, r4, r5]; try rfl) rfl ?_
  exact ⟨rfl, al (al (Below.refl _ _) _) _⟩
theorem tkC_cons (x : Tk) (L : List Tk) : tkC (x :: L) = (tkV x).toList ++ tkC L := rfl
theorem tkC_get : ∀ (L : List Tk) (i : Nat) (hi : i < L.length) (j : Nat), j < 6 → (tkC L)[i * 6 + j]? = (tkV L[i]).toList[j]?
  | [], i, hi, _, _ => absurd hi (by simp)
  | x :: L, 0, _, j, hj => by
    rw [tkC_cons, Nat.zero_mul, Nat.zero_add, List.getElem?_append_left (by show j < 6; exact hj)]
    rfl
  | x :: L, i + 1, hi, j, hj => by
    rw [tkC_cons, List.getElem?_append_right (by show 6 ≤ _; omega)]
    show (tkC L)[(i + 1) * 6 + j - 6]? = _
    rw [show (i + 1) * 6 + j - 6 = i * 6 + j by omega]
    exact tkC_get L i (by simpa using hi) j hj
/-- A token of a row. -/
theorem tk_at {w : World} {base g cap n : Nat} {L : List Tk} (h : w.ownsRow base 40 6 (.slice (some ⟨g, 0, none⟩) n cap) n (tkC L)) {i : Nat} (hi : i < L.length) {x : Tk} (hx : L[i] = x) :
    w.cell? ⟨g, i * 6, none⟩ = some (.int .i64 x.k) ∧ w.cell? ⟨g, i * 6 + 1, none⟩ = some (.string ⟨x.t.toArray⟩) ∧ w.cell? ⟨g, i * 6 + 2, none⟩ = some (.int .i64 x.n) ∧ w.cell? ⟨g, i * 6 + 3, none⟩ = some (.int .i64 x.a) ∧ w.cell? ⟨g, i * 6 + 4, none⟩ = some (.int .i64 x.b) ∧ w.cell? ⟨g, i * 6 + 5, none⟩ = some (.int .i64 x.p) := by
  subst hx
  have key : ∀ j v, j < 6 → (tkV L[i]).toList[j]? = some v → w.cell? ⟨g, i * 6 + j, none⟩ = some v := fun j v hj hv => by
    have := h.cells (g := g) rfl (i * 6 + j) v (by rw [tkC_get L i hi j hj]; exact hv)
    rw [show (⟨g, 0, none⟩ : Addr).add (i * 6 + j) = ⟨g, 0 + (i * 6 + j), none⟩ by unfold Addr.add; split <;> simp_all] at this
    rwa [Nat.zero_add] at this
  exact ⟨key 0 _ (by omega) rfl, key 1 _ (by omega) rfl, key 2 _ (by omega) rfl, key 3 _ (by omega) rfl, key 4 _ (by omega) rfl, key 5 _ (by omega) rfl⟩
end Go.Proofs.YtkpdbbbeagnjpaaGreatDoor
