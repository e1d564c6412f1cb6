/-
  escaped by its contract; a builder's calls. Condition: the byte is 32 to 126.
-/
import Derived.Test.YthgikaklcglpiaaGreatDoorP18
import Derived.Test.YthgikaklcglpiaaGreatDoorP19
import Derived.Laws.EntriesVeiled
import Derived.Shelf.Strings.BuilderK
namespace Go.Proofs.YthgikaklcglpiaaGreatDoor.L5
open Go.RowKit Go.Lib

def bU (b : Int) : UInt8 := UInt8.ofNat b.toNat
/-- A byte as text, behind a backslash if it is one of q. -/
def escL (b : Int) (q : By) : By := if q.contains (bU b) then [92, bU b] else [bU b]
theorem idx_has : ∀ (q : By) (c : UInt8), decide (0 ≤ Lib.indexByte q c) = q.contains c
  | [], c => by simp [Lib.indexByte]
  | x :: q, c => by
    have ih := idx_has q c
    unfold Lib.indexByte
    by_cases hx : (x == c) = true
    · have : x = c := by simpa using hx
      subst this
      simp
    · have hx' : ¬ c = x := fun h => hx (by simp [h])
      rw [if_neg hx]
      rw [List.contains_cons, ← ih]
      have e1 : (c == x) = false := by simpa using hx'
      rw [e1, Bool.false_or]
      have hge : Lib.indexByte q c = -1 ∨ 0 ≤ Lib.indexByte q c := by
        clear ih hx hx' e1
        induction q with
        | nil => exact .inl rfl
        | cons y q ih =>
          unfold Lib.indexByte
          split
          · exact .inr (by decide)
          · rcases ih with h | h
            · exact .inl (by simp [h])
            · refine .inr ?_
              split
              · rename_i h2; simp at h2; omega
              · omega
      rcases hge with h | h
      · simp [h]
      · have h2 : ¬ (Lib.indexByte q c == -1) = true := by simp; omega
        rw [if_neg h2]
        simp [h]
        omega
theorem enc_one (b : Int) (h0 : 0 ≤ b) (h1 : b ≤ 126) : Utf8.encode b = ⟨#[bU b]⟩ := by
  unfold Utf8.encode
  have hv : Utf8.valid b = true := by
    unfold Utf8.valid
    simp
    omega
  simp only [hv, if_true]
  rw [if_pos (by omega)]
  rfl
set_option maxRecDepth 100000 in
set_option maxHeartbeats 1000000 in
theorem escaped_any (b : Int) (q : By) (w : World) (h0 : 32 ≤ b) (h1 : b ≤ 126) : Calls Tryz.prog 290 #[.int .i64 b, .string ⟨q.toArray⟩] w fun e w' => e = .returned (.string ⟨(escL b q).toArray⟩) ∧ Below w.heap.size w w' := by
  have he := enc_one b (by omega) h1
  have w1 : IntKind.i32.wrap b = b := by simp [IntKind.wrap, IntKind.bits, IntKind.signed]; omega
  have w2 : IntKind.u8.wrap b = b := by simp [IntKind.wrap, IntKind.bits, IntKind.signed]; omega
  have HI := hide (fun w => idxByte_any q b w)
  have HX : Hid (decide (0 ≤ Lib.indexByte q b.toNat.toUInt8) = q.contains (bU b)) := idx_has q _
  generalize Lib.indexByte q b.toNat.toUInt8 = i at HI HX
  by_cases hi : 0 ≤ i
  · have HE : Hid (escL b q = [92, bU b]) := by unfold Hid escL; rw [if_pos (by rw [← HX.out]; exact decide_eq_true hi)]
    clear HX
    go_enter Tryz.func290, Tryz.ntmps290
    go_wp2_with (go_at_call 265; refine (HI.out _).mono ?_; rintro e w2 ⟨rfl, hw2⟩; subst hw2)
    go_ret
    exact ⟨by rw [HE.out]; rfl, Below.refl _ _⟩
  · have HE : Hid (escL b q = [bU b]) := by unfold Hid escL; rw [if_neg (by rw [← HX.out, decide_eq_false hi]; decide)]
    clear HX
    go_enter Tryz.func290, Tryz.ntmps290
    go_wp2_with (go_at_call 265; refine (HI.out _).mono ?_; rintro e w2 ⟨rfl, hw2⟩; subst hw2)
    go_ret
    exact ⟨by rw [HE.out]; rfl, Below.refl _ _⟩
/-- A builder, and what it holds. -/
def Bld (B b : Nat) (l : By) (w : World) : Prop := Lib.IsBuilderF 209 5 B b (Lib.byteCells l) w
theorem wrs_any (B b : Nat) (l q : By) (w : World) (h : Bld B b l w) (hlen : l.length + q.length ≤ 140737488355328) (hB : B ≤ w.heap.size) :
    Calls Tryz.prog 200 #[.pointer (some ⟨b, 0, none⟩), .string ⟨q.toArray⟩] w fun e w' => e = .returned (.tuple #[.int .i64 (q.length : Nat), .nilIface]) ∧ Bld B b (l ++ q) w' ∧ Below B w w' ∧ Lib.OthersKept 5 (some b) w w' := by
  have := Any.Builder_WriteString_k Tryz.lays166 Tryz.bldExtra B b (Lib.byteCells l) ⟨q.toArray⟩ w h (by rw [show (Lib.byteCells l).length = l.length by simp [Lib.byteCells]]; exact hlen) hB
  change Calls Tryz.prog 200 _ _ _ at this
  refine this.mono fun e w' ⟨h1, h2, h3⟩ => ⟨h1, .inr ?_, h3⟩
  have e : Lib.byteCells (l ++ q) = Lib.byteCells l ++ Lib.strCells ⟨q.toArray⟩ := by simp [Lib.byteCells, Lib.strCells]
  rw [e]
  exact h2
theorem str_any (B b : Nat) (l : By) (w : World) (h : Bld B b l w) (hB : B ≤ w.heap.size) :
    Calls Tryz.prog 194 #[.pointer (some ⟨b, 0, none⟩)] w fun e w' => e = .returned (.string ⟨l.toArray⟩) ∧ Below B w w' := by
  have := Any.Builder_String_any_k Tryz.lays169 Tryz.bldExtra B b l w h hB
  change Calls Tryz.prog 194 _ _ _ at this
  exact this.mono fun e w' h => ⟨h.1, h.2.2.1⟩
theorem bld_new (w : World) : Bld w.heap.size w.heap.size [] (w.alloc (.cells #[.pointer none, .slice none 0 0] 209)) := by
  refine Lib.IsBuilderF.of (.inl ⟨Nat.le_refl _, .slice none 0 0, heap_alloc_new _ _, World.ownsRow_nil _ _ _ _, ?_⟩)
  intro h
  cases h
theorem Bld.below {B b : Nat} {l : By} {w w' : World} (h : Bld B b l w) (x : Below w.heap.size w w') : Bld B b l w' := by
  have one : ∀ p, Lib.BuilderAtF 209 5 B b p (Lib.byteCells l) w → Lib.BuilderAtF 209 5 B b p (Lib.byteCells l) w' := fun p ⟨hB, v, hv, hown, hne⟩ =>
    ⟨hB, v, (x.block b (lt_of_block hv)).trans hv, hown.kept (row := none) ⟨x.os, x.tape, x.output, x.size, fun k hk _ => x.block k hk⟩ (Classical.em _), hne⟩
  rcases h with h | h
  · exact .inl (one _ h)
  · exact .inr (one _ h)
theorem kept_blk {b k : Nat} {cs : Array Value} {T : TypeId} {w w' : World} (h : Lib.OthersKept 5 (some b) w w') (hk : w.heap[k]? = some (.cells cs T (0, 0))) (hne : k ≠ b) (hT : T ≠ 5) : w'.heap[k]? = some (.cells cs T (0, 0)) :=
  h k _ hk (fun e => hne (by injection e)) (fun c fz e => hT (by injection e))
end Go.Proofs.YthgikaklcglpiaaGreatDoor.L5
/-
  setText by its contract. Condition: the set's numbers are 32 to 126; it is no longer than a process can hold.
-/
namespace Go.Proofs.YthgikaklcglpiaaGreatDoor.L5
open Go.RowKit Go.Lib

def insS' : By := [93, 92, 45, 33]
/-- A span's text. -/
def spT (s : Spn) : By := escL s.1 insS' ++ (if s.2 = s.1 then [] else 45 :: escL s.2 insS')
def stT (no : Bool) (L : List Spn) : By := (91 :: (if no then [33] else [])) ++ L.flatMap spT ++ [93]
theorem escL_len (b : Int) (q : By) : (escL b q).length ≤ 2 := by
  unfold escL
  split <;> simp
theorem spT_len (s : Spn) : (spT s).length ≤ 5 := by
  have h1 := escL_len s.1 insS'
  have h2 := escL_len s.2 insS'
  unfold spT
  split <;> simp <;> omega
theorem flat_len (L : List Spn) : (L.flatMap spT).length ≤ 5 * L.length := by
  induction L with
  | nil => simp
  | cons s L ih => have := spT_len s; simp only [List.flatMap_cons, List.length_append, List.length_cons]; omega
/-- What stands while a set is printed. -/
structure TxS (w : World) (pc : Array Value) (l : By) (W : World) : Prop where
  bld : Bld (w.heap.size + 1) (w.heap.size + 1) l W
  box : W.heap[w.heap.size]? = some (.cells pc 83 (0, 0))
  bel : Below w.heap.size w W
  siz : w.heap.size + 1 ≤ W.heap.size
theorem TxS.wr {w : World} {pc : Array Value} {l q : By} {W W' : World} (h : TxS w pc l W) (h1 : Bld (w.heap.size + 1) (w.heap.size + 1) (l ++ q) W') (x : Below (w.heap.size + 1) W W') : TxS w pc (l ++ q) W' :=
  ⟨h1, (x.block _ (Nat.lt_succ_self _)).trans h.box, h.bel.trans (x.mono (Nat.le_succ _)), Nat.le_trans h.siz x.size⟩
theorem TxS.next {w : World} {pc : Array Value} {l : By} {W W' : World} (h : TxS w pc l W) (x : Below W.heap.size W W') : TxS w pc l W' :=
  ⟨h.bld.below x, (x.block _ (lt_of_block h.box)).trans h.box, bt h.bel x (Nat.le_refl _), Nat.le_trans h.siz x.size⟩
theorem Bld.blk {B b : Nat} {l : By} {w : World} (h : Bld B b l w) : w.heap[b]? = some ((w.heap[b]?).getD (.cells #[] 0 (0, 0))) := by
  rcases h with ⟨_, v, h, _⟩ | ⟨_, v, h, _⟩
  · rw [h]; rfl
  · rw [h]; rfl
set_option maxRecDepth 100000 in
set_option maxHeartbeats 4000000 in
theorem setText_any (kd kb : Int) (kn : Bool) (ks : Option Addr) (kc : Nat) (L : List Spn) (w : World) (hl : L.length ≤ 4294967296) (hr : ∀ s ∈ L, 32 ≤ s.1 ∧ s.1 ≤ s.2 ∧ s.2 ≤ 126) (hat : SpAt w ks L) :
    Calls Tryz.prog 292 #[.agg #[.int .i64 kd, .int .i64 kb, .bool kn, .slice ks L.length kc]] w fun e w' => e = .returned (.string ⟨(stT kn L).toArray⟩) ∧ Below w.heap.size w w' := by
  have S0 : Hid (TxS w #[.int .i64 kd, .int .i64 kb, .bool kn, .slice ks L.length kc] [] ((w.alloc (.cells #[.int .i64 kd, .int .i64 kb, .bool kn, .slice ks L.length kc] 83)).alloc (.cells #[.pointer none, .slice none 0 0] 209))) := by
    have h1 := bld_new (w.alloc (.cells #[.int .i64 kd, .int .i64 kb, .bool kn, .slice ks L.length kc] 83))
    have x1 : Below (w.alloc (.cells #[.int .i64 kd, .int .i64 kb, .bool kn, .slice ks L.length kc] 83)).heap.size (w.alloc (.cells #[.int .i64 kd, .int .i64 kb, .bool kn, .slice ks L.length kc] 83)) ((w.alloc (.cells #[.int .i64 kd, .int .i64 kb, .bool kn, .slice ks L.length kc] 83)).alloc (.cells #[.pointer none, .slice none 0 0] 209)) := al (Below.refl _ _) _
    rw [show (w.alloc (.cells #[.int .i64 kd, .int .i64 kb, .bool kn, .slice ks L.length kc] 83)).heap.size = w.heap.size + 1 by simp] at h1
    exact ⟨h1, (x1.block _ (by simp)).trans (heap_alloc_new _ _), al (al (Below.refl _ _) _) _, by simp⟩
  have HWR := hide (fun W l q (S : TxS w #[.int .i64 kd, .int .i64 kb, .bool kn, .slice ks L.length kc] l W) hq => wrs_any (w.heap.size + 1) (w.heap.size + 1) l q W S.bld hq S.siz)
  have HES := hide (fun W b (h0 : 32 ≤ b) (h1 : b ≤ 126) => escaped_any b [93, 92, 45, 33] W h0 h1)
  have HAT := hide hat
  have HR := hide hr
  clear hat hr
  cases kn with
  | false =>
    go_enter Tryz.func292, Tryz.ntmps292
    go_wp2_with (fail)
    refine (HWR.out _ [] [91] S0.out (by simp)).mono ?_
    rintro e w1 ⟨rfl, b1, x1, k1⟩
    have S1 := hide (S0.out.wr b1 x1)
    have c0 : w1.cell? ⟨w.heap.size, 2, none⟩ = some (.bool false) := by rw [cell_of_row _ _ _ _ _ _ S1.out.box]; rfl
    have c3 : w1.cell? ⟨w.heap.size, 3, none⟩ = some (.slice ks L.length kc) := by rw [cell_of_row _ _ _ _ _ _ S1.out.box]; rfl
    clear b1 x1 k1
    go_wp2
    obtain ⟨l1, hl1⟩ : ∃ l1, Hid (l1 = ([91] : By)) := ⟨_, rfl⟩
    have HL1 : Hid (l1.length ≤ 2) := by unfold Hid; rw [hl1.out]; decide
    have S2 : Hid (TxS w #[.int .i64 kd, .int .i64 kb, .bool false, .slice ks L.length kc] (l1 ++ ((L.take 0).flatMap spT)) w1) := by unfold Hid; rw [hl1.out]; exact S1.out
    go_loopw [13] (fun x wr => ∃ k : Nat, k ≤ L.length ∧ x = .int .i64 k ∧ Hid (TxS w #[.int .i64 kd, .int .i64 kb, .bool false, .slice ks L.length kc] (l1 ++ ((L.take k).flatMap spT)) wr)) (fun x _ => L.length - (RowKit.intOf x).toNat)
    case atStart => exact ⟨0, Nat.zero_le _, rfl, S2⟩
    case round =>
      obtain ⟨k, hk, rfl, S⟩ := hrel
      rename World => wr
      by_cases hlt : k < L.length
      · have hlt' : (k : Int) < (L.length : Int) := by omega
        obtain ⟨pb, off, rfl, hb, hc⟩ := HAT.out.get hlt
        obtain ⟨r1, r2⟩ := (hc k hlt).below S.out.bel hb
        have HBD := hide (HR.out _ (List.getElem_mem hlt))
        have HTK : Hid (L.take (k + 1) = L.take k ++ [L[k]]) := List.take_succ_eq_append_getElem hlt
        have HFL := hide (flat_len (L.take k))
        rw [List.length_take] at HFL
        have hgd : L.getD k (0, 0) = L[k] := by simp [List.getD_eq_getElem?_getD, hlt]
        rw [hgd] at r1 r2
        generalize L[k] = sp at *
        have HE1 := hide (fun W => HES.out W sp.1 HBD.out.1 (by have := HBD.out; omega))
        have HE2 := hide (fun W => HES.out W sp.2 (by have := HBD.out; omega) HBD.out.2.2)
        have HQ1 := hide (escL_len sp.1 [93, 92, 45, 33])
        have HQ2 := hide (escL_len sp.2 [93, 92, 45, 33])
        have HST : Hid (spT sp = escL sp.1 [93, 92, 45, 33] ++ (if sp.2 = sp.1 then [] else 45 :: escL sp.2 [93, 92, 45, 33])) := rfl
        obtain ⟨q1, hq1⟩ : ∃ q, Hid (q = escL sp.1 [93, 92, 45, 33]) := ⟨_, rfl⟩
        obtain ⟨q2, hq2⟩ : ∃ q, Hid (q = escL sp.2 [93, 92, 45, 33]) := ⟨_, rfl⟩
        rw [← hq1.out] at HE1 HQ1 HST
        rw [← hq2.out] at HE2 HQ2 HST
        have hadd : (⟨#[45]⟩ : ByteArray) ++ ⟨q2.toArray⟩ = ⟨((45 : UInt8) :: q2).toArray⟩ := by apply ByteArray.ext; simp
        have X0 : Hid (Below wr.heap.size wr (wr.alloc (.cells #[.int .i64 sp.1, .int .i64 sp.2] 75))) := al (Below.refl _ _) _
        have B0 := hide (heap_alloc_new wr (.cells #[.int .i64 sp.1, .int .i64 sp.2] 75))
        have HNB : Hid (wr.heap.size ≠ w.heap.size + 1) := by have := lt_of_block S.out.bld.blk; unfold Hid; omega
        clear hc
        go_wp2_with (fail)
        refine (HE1.out _).mono ?_
        rintro e w3 ⟨rfl, x3⟩
        have S3 := hide (S.out.next (bt X0.out x3 (Nat.le_refl _)))
        have B3 := hide ((x3.block _ (lt_of_block B0.out)).trans B0.out)
        clear x3 r1 r2
        go_wp2_with (fail)
        refine (HWR.out _ _ q1 S3.out (by have := HL1.out; have := HFL.out; have := HQ1.out; rw [List.length_append]; omega)).mono ?_
        rintro e w4 ⟨rfl, b4, x4, k4⟩
        have S4 := hide (S3.out.wr b4 x4)
        have B4 := hide (kept_blk k4 B3.out HNB.out (by decide))
        have d0 : w4.cell? ⟨wr.heap.size, 0, none⟩ = some (.int .i64 sp.1) := by rw [cell_of_row _ _ _ _ _ _ B4.out]; rfl
        have d1 : w4.cell? ⟨wr.heap.size, 1, none⟩ = some (.int .i64 sp.2) := by rw [cell_of_row _ _ _ _ _ _ B4.out]; rfl
        clear b4 x4 k4
        by_cases he : sp.2 = sp.1
        · rw [if_pos he, List.append_nil] at HST
          go_wp2
          go_roundw
          case rel => exact ⟨k + 1, by omega, by go_num, by unfold Hid; rw [HTK.out, List.flatMap_append, ← List.append_assoc, List.flatMap_singleton, HST.out]; exact S4.out⟩
          case measure => simp [RowKit.intOf]; omega
        · rw [if_neg he] at HST
          go_wp2_with (fail)
          refine (HE2.out _).mono ?_
          rintro e w5 ⟨rfl, x5⟩
          have S5 := hide (S4.out.next x5)
          have hq2l : q2.length ≤ 2 := HQ2.out
          clear x5
          go_wp2_with (fail)
          refine (HWR.out _ _ ((45 : UInt8) :: q2) S5.out (by have := HL1.out; have := HFL.out; have := HQ1.out; have := HQ2.out; rw [List.length_append, List.length_append, List.length_cons]; omega)).mono ?_
          rintro e w6 ⟨rfl, b6, x6, _⟩
          have S6 := hide (S5.out.wr b6 x6)
          clear b6 x6
          go_wp2
          go_roundw
          case rel => exact ⟨k + 1, by omega, by go_num, by unfold Hid; rw [HTK.out, List.flatMap_append, ← List.append_assoc, List.flatMap_singleton, HST.out, ← List.append_assoc]; exact S6.out⟩
          case measure => simp [RowKit.intOf]; omega
      · have hnl : ¬ (k : Int) < (L.length : Int) := by omega
        have hkl : k = L.length := by omega
        subst hkl
        rw [List.take_length] at S
        have HFL := hide (flat_len L)
        go_wp2_with (fail)
        refine (HWR.out _ _ [93] S.out (by have := HL1.out; have := HFL.out; rw [List.length_append, List.length_singleton]; omega)).mono ?_
        rintro e w4 ⟨rfl, b4, x4, _⟩
        have S4 := hide (S.out.wr b4 x4)
        clear b4 x4
        go_wp2_with (fail)
        refine (str_any (w.heap.size + 1) (w.heap.size + 1) _ w4 S4.out.bld S4.out.siz).mono ?_
        rintro e w5 ⟨rfl, x5⟩
        have X5 := hide (S4.out.bel.trans (x5.mono (Nat.le_succ _)))
        clear x5
        go_wp2
        go_ret
        refine ⟨?_, X5.out⟩
        rw [hl1.out]
        rfl
  | true =>
    go_enter Tryz.func292, Tryz.ntmps292
    go_wp2_with (fail)
    refine (HWR.out _ [] [91] S0.out (by simp)).mono ?_
    rintro e w1 ⟨rfl, b1, x1, k1⟩
    have S1 := hide (S0.out.wr b1 x1)
    have c0 : w1.cell? ⟨w.heap.size, 2, none⟩ = some (.bool true) := by rw [cell_of_row _ _ _ _ _ _ S1.out.box]; rfl
    clear b1 x1 k1
    go_wp2_with (fail)
    refine (HWR.out _ _ [33] S1.out (by simp)).mono ?_
    rintro e w2 ⟨rfl, b2, x2, k2⟩
    have S1' := hide (S1.out.wr b2 x2)
    have c3 : w2.cell? ⟨w.heap.size, 3, none⟩ = some (.slice ks L.length kc) := by rw [cell_of_row _ _ _ _ _ _ S1'.out.box]; rfl
    clear b2 x2 k2 c0
    go_wp2
    obtain ⟨l1, hl1⟩ : ∃ l1, Hid (l1 = ([91, 33] : By)) := ⟨_, rfl⟩
    have HL1 : Hid (l1.length ≤ 2) := by unfold Hid; rw [hl1.out]; decide
    have S2 : Hid (TxS w #[.int .i64 kd, .int .i64 kb, .bool true, .slice ks L.length kc] (l1 ++ ((L.take 0).flatMap spT)) w2) := by unfold Hid; rw [hl1.out]; exact S1'.out
    go_loopw [13] (fun x wr => ∃ k : Nat, k ≤ L.length ∧ x = .int .i64 k ∧ Hid (TxS w #[.int .i64 kd, .int .i64 kb, .bool true, .slice ks L.length kc] (l1 ++ ((L.take k).flatMap spT)) wr)) (fun x _ => L.length - (RowKit.intOf x).toNat)
    case atStart => exact ⟨0, Nat.zero_le _, rfl, S2⟩
    case round =>
      obtain ⟨k, hk, rfl, S⟩ := hrel
      rename World => wr
      by_cases hlt : k < L.length
      · have hlt' : (k : Int) < (L.length : Int) := by omega
        obtain ⟨pb, off, rfl, hb, hc⟩ := HAT.out.get hlt
        obtain ⟨r1, r2⟩ := (hc k hlt).below S.out.bel hb
        have HBD := hide (HR.out _ (List.getElem_mem hlt))
        have HTK : Hid (L.take (k + 1) = L.take k ++ [L[k]]) := List.take_succ_eq_append_getElem hlt
        have HFL := hide (flat_len (L.take k))
        rw [List.length_take] at HFL
        have hgd : L.getD k (0, 0) = L[k] := by simp [List.getD_eq_getElem?_getD, hlt]
        rw [hgd] at r1 r2
        generalize L[k] = sp at *
        have HE1 := hide (fun W => HES.out W sp.1 HBD.out.1 (by have := HBD.out; omega))
        have HE2 := hide (fun W => HES.out W sp.2 (by have := HBD.out; omega) HBD.out.2.2)
        have HQ1 := hide (escL_len sp.1 [93, 92, 45, 33])
        have HQ2 := hide (escL_len sp.2 [93, 92, 45, 33])
        have HST : Hid (spT sp = escL sp.1 [93, 92, 45, 33] ++ (if sp.2 = sp.1 then [] else 45 :: escL sp.2 [93, 92, 45, 33])) := rfl
        obtain ⟨q1, hq1⟩ : ∃ q, Hid (q = escL sp.1 [93, 92, 45, 33]) := ⟨_, rfl⟩
        obtain ⟨q2, hq2⟩ : ∃ q, Hid (q = escL sp.2 [93, 92, 45, 33]) := ⟨_, rfl⟩
        rw [← hq1.out] at HE1 HQ1 HST
        rw [← hq2.out] at HE2 HQ2 HST
        have hadd : (⟨#[45]⟩ : ByteArray) ++ ⟨q2.toArray⟩ = ⟨((45 : UInt8) :: q2).toArray⟩ := by apply ByteArray.ext; simp
        have X0 : Hid (Below wr.heap.size wr (wr.alloc (.cells #[.int .i64 sp.1, .int .i64 sp.2] 75))) := al (Below.refl _ _) _
        have B0 := hide (heap_alloc_new wr (.cells #[.int .i64 sp.1, .int .i64 sp.2] 75))
        have HNB : Hid (wr.heap.size ≠ w.heap.size + 1) := by have := lt_of_block S.out.bld.blk; unfold Hid; omega
        clear hc
        go_wp2_with (fail)
        refine (HE1.out _).mono ?_
        rintro e w3 ⟨rfl, x3⟩
        have S3 := hide (S.out.next (bt X0.out x3 (Nat.le_refl _)))
        have B3 := hide ((x3.block _ (lt_of_block B0.out)).trans B0.out)
        clear x3 r1 r2
        go_wp2_with (fail)
        refine (HWR.out _ _ q1 S3.out (by have := HL1.out; have := HFL.out; have := HQ1.out; rw [List.length_append]; omega)).mono ?_
        rintro e w4 ⟨rfl, b4, x4, k4⟩
        have S4 := hide (S3.out.wr b4 x4)
        have B4 := hide (kept_blk k4 B3.out HNB.out (by decide))
        have d0 : w4.cell? ⟨wr.heap.size, 0, none⟩ = some (.int .i64 sp.1) := by rw [cell_of_row _ _ _ _ _ _ B4.out]; rfl
        have d1 : w4.cell? ⟨wr.heap.size, 1, none⟩ = some (.int .i64 sp.2) := by rw [cell_of_row _ _ _ _ _ _ B4.out]; rfl
        clear b4 x4 k4
        by_cases he : sp.2 = sp.1
        · rw [if_pos he, List.append_nil] at HST
          go_wp2
          go_roundw
          case rel => exact ⟨k + 1, by omega, by go_num, by unfold Hid; rw [HTK.out, List.flatMap_append, ← List.append_assoc, List.flatMap_singleton, HST.out]; exact S4.out⟩
          case measure => simp [RowKit.intOf]; omega
        · rw [if_neg he] at HST
          go_wp2_with (fail)
          refine (HE2.out _).mono ?_
          rintro e w5 ⟨rfl, x5⟩
          have S5 := hide (S4.out.next x5)
          have hq2l : q2.length ≤ 2 := HQ2.out
          clear x5
          go_wp2_with (fail)
          refine (HWR.out _ _ ((45 : UInt8) :: q2) S5.out (by have := HL1.out; have := HFL.out; have := HQ1.out; have := HQ2.out; rw [List.length_append, List.length_append, List.length_cons]; omega)).mono ?_
          rintro e w6 ⟨rfl, b6, x6, _⟩
          have S6 := hide (S5.out.wr b6 x6)
          clear b6 x6
          go_wp2
          go_roundw
          case rel => exact ⟨k + 1, by omega, by go_num, by unfold Hid; rw [HTK.out, List.flatMap_append, ← List.append_assoc, List.flatMap_singleton, HST.out, ← List.append_assoc]; exact S6.out⟩
          case measure => simp [RowKit.intOf]; omega
      · have hnl : ¬ (k : Int) < (L.length : Int) := by omega
        have hkl : k = L.length := by omega
        subst hkl
        rw [List.take_length] at S
        have HFL := hide (flat_len L)
        go_wp2_with (fail)
        refine (HWR.out _ _ [93] S.out (by have := HL1.out; have := HFL.out; rw [List.length_append, List.length_singleton]; omega)).mono ?_
        rintro e w4 ⟨rfl, b4, x4, _⟩
        have S4 := hide (S.out.wr b4 x4)
        clear b4 x4
        go_wp2_with (fail)
        refine (str_any (w.heap.size + 1) (w.heap.size + 1) _ w4 S4.out.bld S4.out.siz).mono ?_
        rintro e w5 ⟨rfl, x5⟩
        have X5 := hide (S4.out.bel.trans (x5.mono (Nat.le_succ _)))
        clear x5
        go_wp2
        go_ret
        refine ⟨?_, X5.out⟩
        rw [hl1.out]
        rfl
end Go.Proofs.YthgikaklcglpiaaGreatDoor.L5
