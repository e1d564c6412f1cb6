/-
  What Parse puts off, by its contracts: of a frame that panics with a fault, of one that returns. No condition.
-/
import Derived.Test.YtlmhofjiobmodaaGreatDoorQ24
import Derived.Defers
import Derived.Recover
import Derived.Shelf.Small.Utf8
import Derived.Shelf.Small.Strs
import Derived.Test.YtlmhofjiobmodaaGreatDoorProg
import Derived.Test.YtlmhofjiobmodaaGreatDoorQ07
import Derived.Laws.Runes
import Derived.WalkMore
import Derived.BigQuiet
namespace Go.Proofs.YtlmhofjiobmodaaGreatDoor
open Go.RowKit Go.Lib

theorem tas_ok (e p : Int) (w : World) : (Instr.typeAssert (.iface 70 (.agg #[.int .i64 e, .int .i64 p])) 20 70 true).run Tryz.prog w = .ok (.tuple #[.agg #[.int .i64 e, .int .i64 p], .bool true]) w := by kernel_rfl
theorem tas_nil (w : World) : (Instr.typeAssert .nilIface 20 70 true).run Tryz.prog w = .ok (.tuple #[.agg #[.int .i64 0, .int .i64 0], .bool false]) w := by kernel_rfl
set_option maxRecDepth 100000 in
set_option maxHeartbeats 2000000 in
theorem pcatch_bad {w : World} {p2 p3 p4 : Nat} {a2 x3 x4} {m2 c2 : Nat} (e0 q : Int) (older : List PanicEntry) (h2 : w.heap[p2]? = some (.cells #[.slice a2 m2 c2] 36 (0, 0))) (h3 : w.heap[p3]? = some (.cells #[.int .i64 x3] 37 (0, 0))) (h4 : w.heap[p4]? = some (.cells #[.int .i64 x4] 3 (0, 0))) :
    CallsD Tryz.prog 27 #[.pointer (some ⟨p2, 0, none⟩), .pointer (some ⟨p3, 0, none⟩), .pointer (some ⟨p4, 0, none⟩)] (.panicking ({ v := .iface 70 (.agg #[.int .i64 e0, .int .i64 q]), recovered := false } :: older)) w fun e u' w' =>
      e = .returned (.tuple #[]) ∧ u' = .panicking ({ v := .iface 70 (.agg #[.int .i64 e0, .int .i64 q]), recovered := true } :: older) ∧ w'.heap[p2]? = some (.cells #[.slice none 0 0] 36 (0, 0)) ∧ w'.heap[p3]? = some (.cells #[.int .i64 e0] 37 (0, 0)) ∧ w'.heap[p4]? = some (.cells #[.int .i64 q] 3 (0, 0)) ∧ Kept (fun k => k = p2 ∨ k = p3 ∨ k = p4) w w' := by
  have hta := tas_ok
  have H2 := hide h2
  have H3 := hide h3
  have H4 := hide h4
  clear h2 h3 h4
  refine callsD_of_wpS Tryz.func27 rfl fun c₀ cs hu => ?_
  apply wpS_seq
  apply wpS_region
  simp [wpOpsS, go_sem, recoverD, hu, Tryz.ntmps27, Exit.thenS, hta]
  clear hta
  have hrep : Array.replicate 13 undef = #[undef, undef, undef, undef, undef, undef, undef, undef, undef, undef, undef, undef, undef] := rfl
  simp only [hrep, List.setIfInBounds_toArray, List.set_cons_zero, List.set_cons_succ, List.append_toArray, List.cons_append, List.nil_append]
  clear hrep
  refine wpS_of_wp ?_
  go_upto_region 2 with fail
  have XW : Hid (Below w.heap.size w (w.alloc (.cells #[.int .i64 e0, .int .i64 q] 70))) := al (Below.refl _ _) _
  have PW := hide (heap_alloc_new w (.cells #[.int .i64 e0, .int .i64 q] 70))
  obtain ⟨P, hP⟩ : ∃ P, P = w.heap.size := ⟨_, rfl⟩
  rw [← hP] at PW
  rw [← hP]
  have HP := hide hP
  clear hP
  generalize w.alloc (.cells #[.int .i64 e0, .int .i64 q] 70) = W at *
  refine wp_unt (S := fun V => V.cell? ⟨P, 0, none⟩ = some (.int .i64 e0) ∧ V.cell? ⟨P, 1, none⟩ = some (.int .i64 q)) 7 (by kernel_rfl) ?_
  have HS0 : Hid (Below W.heap.size W W.drew) := (Below.refl _ _).drew
  have X2 := hide (bt XW.out HS0.out (Nat.le_refl _))
  have P2 := hide ((HS0.out.block P (lt_of_block PW.out)).trans PW.out)
  clear HS0 XW PW
  generalize W.drew = wd at *
  have SF : Hid (∀ V : World, V.heap[P]? = some (.cells #[.int .i64 e0, .int .i64 q] 70 (0, 0)) → V.cell? ⟨P, 0, none⟩ = some (.int .i64 e0) ∧ V.cell? ⟨P, 1, none⟩ = some (.int .i64 q)) := fun V h1 => ⟨by rw [cell_of_row _ _ _ _ _ _ h1]; rfl, by rw [cell_of_row _ _ _ _ _ _ h1]; rfl⟩
  have S2 := hide (SF.out wd P2.out)
  have n2 : P ≠ p2 := by have := HP.out; have := lt_of_block H2.out; omega
  have n3 : P ≠ p3 := by have := HP.out; have := lt_of_block H3.out; omega
  have n4 : P ≠ p4 := by have := HP.out; have := lt_of_block H4.out; omega
  have n32 : p3 ≠ p2 := fun e => block_ne H3.out H2.out (by decide) e
  have n42 : p4 ≠ p2 := fun e => block_ne H4.out H2.out (by decide) e
  have n43 : p4 ≠ p3 := fun e => block_ne H4.out H3.out (by decide) e
  have A2 := hide ((X2.out.block p2 (lt_of_block H2.out)).trans H2.out)
  have A3 := hide ((X2.out.block p3 (lt_of_block H3.out)).trans H3.out)
  have A4 := hide ((X2.out.block p4 (lt_of_block H4.out)).trans H4.out)
  have ks : ∀ (V : World) (b : Nat) (u : Value), Kept (fun k => k = b) V (V.setCell ⟨b, 0, none⟩ u) := fun V b u => Kept.setCell (F := fun k => k = b) (p := ⟨b, 0, none⟩) (Kept.refl _ _) rfl u
  refine UntH.take (i := 0) (some 11) rfl rfl (by kernel_rfl) (by kernel_rfl) (by kernel_rfl) (by kernel_rfl) (fun _ _ _ _ h => h) (by rfl) S2.out ?_
  apply Exists.intro
  refine ⟨fun w' hw' => ?_, ?_⟩
  · obtain ⟨q1, q2⟩ := hw'
    go_simp
    first | done | rfl
  try simp only [Act.put, List.setIfInBounds_toArray, List.set_cons_zero, List.set_cons_succ]
  refine UntH.take (i := 1) (some 12) rfl rfl (by kernel_rfl) (by kernel_rfl) (by kernel_rfl) (by kernel_rfl) (fun _ _ _ _ h => h) (by rfl) S2.out ?_
  apply Exists.intro
  refine ⟨fun w' hw' => ?_, ?_⟩
  · obtain ⟨q1, q2⟩ := hw'
    go_simp
    first | done | rfl
  try simp only [Act.put, List.setIfInBounds_toArray, List.set_cons_zero, List.set_cons_succ]
  refine UntH.take (i := 2) (some 13) rfl rfl (by kernel_rfl) (by kernel_rfl) (by kernel_rfl) (by kernel_rfl) (fun _ _ _ _ h => h) (by rfl) S2.out ?_
  apply Exists.intro
  refine ⟨fun w' hw' => ?_, ?_⟩
  · obtain ⟨q1, q2⟩ := hw'
    go_simp
    first | done | rfl
  try simp only [Act.put, List.setIfInBounds_toArray, List.set_cons_zero, List.set_cons_succ]
  refine UntH.take (i := 3) (some 14) rfl rfl (by kernel_rfl) (by kernel_rfl) (by kernel_rfl) (by kernel_rfl) (fun _ _ _ _ h => h) (by rfl) S2.out ?_
  apply Exists.intro
  refine ⟨fun w' hw' => ?_, ?_⟩
  · obtain ⟨q1, q2⟩ := hw'
    go_simp
    first | done | rfl
  try simp only [Act.put, List.setIfInBounds_toArray, List.set_cons_zero, List.set_cons_succ]
  refine UntH.take (i := 4) (some 15) rfl rfl (by kernel_rfl) (by kernel_rfl) (by kernel_rfl) (by kernel_rfl) (fun _ _ _ _ h => h) (by rfl) S2.out ?_
  apply Exists.intro
  refine ⟨fun w' hw' => ?_, ?_⟩
  · obtain ⟨q1, q2⟩ := hw'
    go_simp
    first | done | rfl
  try simp only [Act.put, List.setIfInBounds_toArray, List.set_cons_zero, List.set_cons_succ]
  have c7 : wd.cell? ⟨p2, 0, none⟩ = some (.slice a2 m2 c2) := by rw [cell_of_row _ _ _ _ _ _ A2.out]; rfl
  have f7 := frozen_of_row wd p2 0 _ _ A2.out
  have k7 := ks wd p2 (.slice none 0 0)
  have b7 : (wd.setCell ⟨p2, 0, none⟩ (.slice none 0 0)).heap[p2]? = some (.cells #[(.slice none 0 0)] 36 (0, 0)) := by
    have := block_setCell' A2.out 0 (.slice none 0 0)
    simpa using this
  have Bp3 := hide ((k7.block p3 (lt_of_block A3.out) n32).trans A3.out)
  have Bp4 := hide ((k7.block p4 (lt_of_block A4.out) n42).trans A4.out)
  have BP := hide ((k7.block P (lt_of_block P2.out) n2).trans P2.out)
  have Bp2 := hide b7
  have K5 : Hid (Kept (fun k => k = p2 ∨ k = p3 ∨ k = p4) w (wd.setCell ⟨p2, 0, none⟩ (.slice none 0 0))) := (Kept.of_below X2.out).trans (k7.mono (fun _ h => .inl h))
  have S5 := hide (SF.out (wd.setCell ⟨p2, 0, none⟩ (.slice none 0 0)) BP.out)
  refine UntH.step (i := 5) (by kernel_rfl) rfl (fun K hK => ?_)
  go_simp
  refine hK _ _ S5.out ?_
  clear hK K c7 f7 k7 b7 A2 A3 A4 P2 S2 X2
  generalize wd.setCell ⟨p2, 0, none⟩ (.slice none 0 0) = w5 at *
  have A2 := hide Bp2.out
  have A3 := hide Bp3.out
  have A4 := hide Bp4.out
  have P2 := hide BP.out
  clear Bp2 Bp3 Bp4 BP
  have c7 : w5.cell? ⟨p3, 0, none⟩ = some (.int .i64 x3) := by rw [cell_of_row _ _ _ _ _ _ A3.out]; rfl
  have f7 := frozen_of_row w5 p3 0 _ _ A3.out
  have k7 := ks w5 p3 (.int .i64 e0)
  have b7 : (w5.setCell ⟨p3, 0, none⟩ (.int .i64 e0)).heap[p3]? = some (.cells #[(.int .i64 e0)] 37 (0, 0)) := by
    have := block_setCell' A3.out 0 (.int .i64 e0)
    simpa using this
  have Bp2 := hide ((k7.block p2 (lt_of_block A2.out) n32.symm).trans A2.out)
  have Bp4 := hide ((k7.block p4 (lt_of_block A4.out) n43).trans A4.out)
  have BP := hide ((k7.block P (lt_of_block P2.out) n3).trans P2.out)
  have Bp3 := hide b7
  have K6 : Hid (Kept (fun k => k = p2 ∨ k = p3 ∨ k = p4) w (w5.setCell ⟨p3, 0, none⟩ (.int .i64 e0))) := K5.out.trans (k7.mono (fun _ h => .inr (.inl h)))
  have S6 := hide (SF.out (w5.setCell ⟨p3, 0, none⟩ (.int .i64 e0)) BP.out)
  refine UntH.step (i := 6) (by kernel_rfl) rfl (fun K hK => ?_)
  go_simp
  refine hK _ _ S6.out ?_
  clear hK K c7 f7 k7 b7 A2 A3 A4 P2 S5 K5
  generalize w5.setCell ⟨p3, 0, none⟩ (.int .i64 e0) = w6 at *
  have A2 := hide Bp2.out
  have A3 := hide Bp3.out
  have A4 := hide Bp4.out
  have P2 := hide BP.out
  clear Bp2 Bp3 Bp4 BP
  have c7 : w6.cell? ⟨p4, 0, none⟩ = some (.int .i64 x4) := by rw [cell_of_row _ _ _ _ _ _ A4.out]; rfl
  have f7 := frozen_of_row w6 p4 0 _ _ A4.out
  have k7 := ks w6 p4 (.int .i64 q)
  have b7 : (w6.setCell ⟨p4, 0, none⟩ (.int .i64 q)).heap[p4]? = some (.cells #[(.int .i64 q)] 3 (0, 0)) := by
    have := block_setCell' A4.out 0 (.int .i64 q)
    simpa using this
  have Bp2 := hide ((k7.block p2 (lt_of_block A2.out) n42.symm).trans A2.out)
  have Bp3 := hide ((k7.block p3 (lt_of_block A3.out) n43.symm).trans A3.out)
  have Bp4 := hide b7
  have K7 : Hid (Kept (fun k => k = p2 ∨ k = p3 ∨ k = p4) w (w6.setCell ⟨p4, 0, none⟩ (.int .i64 q))) := K6.out.trans (k7.mono (fun _ h => .inr (.inr h)))
  refine UntH.last (by kernel_rfl) rfl (by kernel_rfl) (by kernel_rfl) (fun K hK => ?_)
  go_simp
  refine hK _ _ ?_
  clear hK K c7 f7 k7 b7 A2 A3 A4 P2 S6 K6
  generalize w6.setCell ⟨p4, 0, none⟩ (.int .i64 q) = w7 at *
  try go_wp2
  simp [bodyPostS, results, Tryz.results27]
  exact ⟨Bp2.out, Bp3.out, Bp4.out, K7.out⟩
set_option maxRecDepth 100000 in
set_option maxHeartbeats 2000000 in
theorem pcatch_idle (p2 p3 p4 : Nat) (w : World) :
    CallsD Tryz.prog 27 #[.pointer (some ⟨p2, 0, none⟩), .pointer (some ⟨p3, 0, none⟩), .pointer (some ⟨p4, 0, none⟩)] .returning w fun e u' w' => e = .returned (.tuple #[]) ∧ u' = .returning ∧ Below w.heap.size w w' := by
  have hta := tas_nil
  refine callsD_of_wpS Tryz.func27 rfl fun c₀ cs hu => ?_
  apply wpS_seq
  apply wpS_region
  simp [wpOpsS, go_sem, recoverD, hu, Tryz.ntmps27, Exit.thenS, hta]
  clear hta
  have hrep : Array.replicate 13 undef = #[undef, undef, undef, undef, undef, undef, undef, undef, undef, undef, undef, undef, undef] := rfl
  simp only [hrep, List.setIfInBounds_toArray, List.set_cons_zero, List.set_cons_succ, List.append_toArray, List.cons_append, List.nil_append]
  clear hrep
  refine wpS_of_wp ?_
  go_wp2
  cases c₀
  simp_all [bodyPostS, results, Tryz.results27]
  exact al (Below.refl _ _) _
end Go.Proofs.YtlmhofjiobmodaaGreatDoor
/-
  Contracts of utf8.ValidRune and strings.IndexByte at this program, laid off the library by its own tool. Conditions: as each says.
-/
namespace Go.Proofs
open Go.Shelf
def Tryz.lays119_ren : Go.Shelf.Ren := ⟨fun | 119 => 188 | n => n, fun | 21 => 21 | 4 => 4 | n => n, fun | n => n⟩
theorem Tryz.lays119 : Go.Proofs.Lays.n119 Tryz.prog Tryz.lays119_ren := {
  mixed := by kernel_rfl
  f119 := Tryz.func188.trans (congrArg some (by kernel_rfl))
  t4 := Tryz.underlying4
  a4 := Tryz.isAgg4
  z4 := Tryz.sizeOf4
  v4 := Tryz.zeroValue4
  t21 := Tryz.underlying21
  a21 := Tryz.isAgg21
  z21 := Tryz.sizeOf21
  v21 := Tryz.zeroValue21 }
theorem Tryz.utf8_ValidRune (r : Int) (w : World) :
    Calls Tryz.prog 188 #[.int .i32 r] w fun e w' => e = .returned (.bool (Lib.validRune r)) ∧ w' = w := Any.utf8_ValidRune Tryz.lays119 r w
def Tryz.lays137_ren : Go.Shelf.Ren := ⟨fun | 137 => 187 | 217 => 205 | 266 => 221 | n => n, fun | 9 => 9 | 5 => 5 | 3 => 3 | n => n, fun | n => n⟩
theorem Tryz.lays137 : Go.Proofs.Lays.n137 Tryz.prog Tryz.lays137_ren := {
  mixed := by kernel_rfl
  f137 := Tryz.func187.trans (congrArg some (by kernel_rfl))
  f217 := Tryz.func205.trans (congrArg some (by kernel_rfl))
  f266 := Tryz.func221.trans (congrArg some (by kernel_rfl))
  t3 := Tryz.underlying3
  a3 := Tryz.isAgg3
  z3 := Tryz.sizeOf3
  v3 := Tryz.zeroValue3
  t5 := Tryz.underlying5
  a5 := Tryz.isAgg5
  z5 := Tryz.sizeOf5
  v5 := Tryz.zeroValue5
  t9 := Tryz.underlying9
  a9 := Tryz.isAgg9
  z9 := Tryz.sizeOf9
  v9 := Tryz.zeroValue9 }
open Go.RowKit in
theorem Tryz.strings_IndexByte (s : ByteArray) (c : Int) (w : World) :
    Calls Tryz.prog 187 #[.string s, .int .u8 c] w fun e w' => e = .returned (.int .i64 (Lib.indexByte s.data.toList c.toNat.toUInt8)) ∧ w' = w := Any.strings_IndexByte Tryz.lays137 s c w
end Go.Proofs
/-
  isSign of a rune from 128 on: it is none. No condition.
-/
namespace Go.Proofs.YtlmhofjiobmodaaGreatDoor
open Go.RowKit Go.Lib

theorem sign_low : ∀ i (hi : i < signsL.length), signsL[i].toNat < 128 := by decide
theorem idx_none (l : By) (c : UInt8) (hl : ∀ b ∈ l, b.toNat < 128) (hc : 128 ≤ c.toNat) : Lib.indexByte l c = -1 := by
  induction l with
  | nil => rfl
  | cons b t ih =>
    have hb := hl b List.mem_cons_self
    have hne : (b == c) = false := by
      rw [beq_eq_false_iff_ne]
      intro e
      rw [e] at hb
      omega
    unfold Lib.indexByte
    rw [hne, if_neg (by decide), ih (fun x hx => hl x (List.mem_cons_of_mem _ hx))]
    rfl
theorem below_drewQ {B : Nat} {a w : World} (n : Nat) (h : Below B a w) : Below B a (w.drewN n) := ⟨h.os, h.tape, h.output, h.size, h.block⟩
set_option maxHeartbeats 4000000 in
set_option maxRecDepth 100000 in
theorem idxRune_high (r : Int) (h : 128 ≤ r) (w : World) : Calls Tryz.prog 155 #[.string ⟨#[123, 125, 40, 41, 44, 59, 61, 126, 45]⟩, .int .i32 r] w fun e w' => e = .returned (.int .i64 (-1)) ∧ Below w.heap.size w w' := by
  have h1 : (0 : Int) ≤ r := by omega
  have h2 : ¬ r < 128 := by omega
  by_cases he : r = 65533
  · subst he
    clear h h1 h2
    obtain ⟨s, hs⟩ : ∃ s : ByteArray, Hid (s = ⟨signsL.toArray⟩) := ⟨_, rfl⟩
    have hsl : (⟨#[123, 125, 40, 41, 44, 59, 61, 126, 45]⟩ : ByteArray) = s := hs.out.symm
    rw [hsl]
    clear hsl
    go_enter Tryz.func155, Tryz.ntmps155
    go_wp2
    go_loopw [] (fun wr => ∃ pos : Nat, wr.heap[w.heap.size]? = some (.stringIter s pos) ∧ Below w.heap.size w wr ∧ pos ≤ 9) (fun wr => 9 - wr.iterPos w.heap.size)
    case atStart =>
      refine ⟨0, ?_, (Below.refl _ w).alloc (Nat.le_refl _) _, by omega⟩
      have := World.iter_heap w s 0
      simpa using this
    case round =>
      obtain ⟨pos, hit, hbw, hp1⟩ := hrel
      have hsz : s.size = 9 := by rw [hs.out]; rfl
      by_cases hp : pos < 9
      · have hlow : (s[pos]'(by omega)).toNat < 128 := by
          have := sign_low pos hp
          have e : s[pos]'(by omega) = signsL[pos]'hp := by
            have := hs.out
            subst this
            exact bs_get signsL pos _
          rw [e]; exact this
        have hnx : ∀ ty, (Instr.next (.pointer (some ⟨w.heap.size, 0, none⟩)) true ty).run Tryz.prog wr = _ := fun ty => Lib.run_next_ascii_at wr w.heap.size s pos ty hit (by omega) hlow
        have HI2 := hide (Lib.iterAt_heap wr w.heap.size s pos (pos + 1) hit)
        have HX2 := hide (Lib.below_iterAt hbw (k := w.heap.size) (Nat.le_refl _) s (pos + 1))
        generalize (s[pos]'(by omega)).toNat = b at *
        have hb : ¬ (b : Int) = 65533 := by omega
        go_wp2
        go_roundw
        case rel => exact ⟨pos + 1, HI2.out, HX2.out, by omega⟩
        case measure =>
          simp only [World.iterPos, HI2.out, hit]
          omega
      · have hnx : ∀ ty, (Instr.next (.pointer (some ⟨w.heap.size, 0, none⟩)) true ty).run Tryz.prog wr = _ := fun ty => Lib.run_next_end_at wr w.heap.size s pos ty hit (by omega)
        have HX2 := hide hbw
        go_wp2
        go_ret
        exact ⟨rfl, HX2.out⟩
  · have he' : (r == 65533) = false := by simp [he]
    have HV := hide (fun W => Tryz.utf8_ValidRune r W)
    cases hv : Lib.validRune r with
    | false =>
      rw [hv] at HV
      clear hv
      go_enter Tryz.func155, Tryz.ntmps155
      go_wp2_with (go_at_call 188; refine (HV.out _).mono ?_; rintro e wz ⟨rfl, hwz⟩; have hwz := hwz.symm; subst hwz)
      go_ret
      exact ⟨rfl, Below.refl _ _⟩
    | true =>
      have hv2 : Utf8.valid r = true := by
        unfold Lib.validRune at hv
        simp only [decide_eq_true_eq] at hv
        unfold Utf8.valid
        simp
        omega
      rw [hv] at HV
      obtain ⟨e1, e2, e3⟩ := encode_facts r hv2 h
      generalize hE : Utf8.encode r = E at *
      have hE2 : ∀ W : World, (convert 21 9 (.int .i32 r)).run Tryz.prog W = .ok (.string E) W := fun W => by
        rw [run_convert_int_string W 21 9 .i32 r (by kernel_rfl) Tryz.underlying9, hE]
      clear hv hv2 hE
      obtain ⟨m, hm⟩ : ∃ m : Nat, E.size = m + 1 := ⟨E.size - 1, by omega⟩
      have hmE : m < E.size := by omega
      obtain ⟨c, hc⟩ : ∃ c, E[m]'hmE = c := ⟨_, rfl⟩
      have hgE : ∀ hk, E[m]'hk = c := fun _ => hc
      have hc128 : 128 ≤ c.toNat := by
        have := e3 (by omega)
        have e : E[E.size - 1]'(by omega) = E[m]'hmE := by congr 1; omega
        rw [e, hc] at this
        exact this
      have hm9 : m < signsL.length := by show m < 9; omega
      obtain ⟨a, ha⟩ : ∃ a, signsL[m]'hm9 = a := ⟨_, rfl⟩
      have ha128 : a.toNat < 128 := by rw [← ha]; exact sign_low m hm9
      have hgS : ∀ hk, (⟨#[123, 125, 40, 41, 44, 59, 61, 126, 45]⟩ : ByteArray)[m]'hk = a := fun hk => (bs_get signsL m hk).trans ha
      have HIB := hide (fun W => Tryz.strings_IndexByte ((⟨#[123, 125, 40, 41, 44, 59, 61, 126, 45]⟩ : ByteArray).extract (m + 1) 9) (c.toNat : Int) W)
      have hnone : Lib.indexByte ((⟨#[123, 125, 40, 41, 44, 59, 61, 126, 45]⟩ : ByteArray).extract (m + 1) 9).data.toList (c.toNat : Int).toNat.toUInt8 = -1 := by
        have e : (⟨#[123, 125, 40, 41, 44, 59, 61, 126, 45]⟩ : ByteArray).extract (m + 1) 9 = ⟨(cutB signsL (m + 1) 9).toArray⟩ := ext_cut signsL (m + 1) 9
        rw [e]
        refine idx_none _ _ (fun b hb => ?_) (by simpa using hc128)
        have : b ∈ signsL := by
          have hb2 : b ∈ cutB signsL (m + 1) 9 := by simpa using hb
          exact List.mem_of_mem_take (List.mem_of_mem_drop hb2)
        obtain ⟨i, hi, rfl⟩ := List.getElem_of_mem this
        exact sign_low i hi
      rw [hnone] at HIB
      have hne : ¬ (a.toNat : Int) = (c.toNat : Int) := by omega
      have hmi : (m : Int) < 9 := by omega
      have f1 : IntKind.i64.wrap ((m : Int) + 1 - 1) = (m : Int) := by rw [show (m : Int) + 1 - 1 = (m : Int) by omega]; simp [IntKind.wrap, IntKind.bits, IntKind.signed]; omega
      have f1' : IntKind.i64.wrap (m : Int) = (m : Int) := by simp [IntKind.wrap, IntKind.bits, IntKind.signed]; omega
      have f2 : IntKind.i64.wrap ((m : Int) + 1) = (m : Int) + 1 := by rw [show (m : Int) + 1 = ((m + 1 : Nat) : Int) by simp]; simp [IntKind.wrap, IntKind.bits, IntKind.signed]; omega
      have h9 : (m : Int) + 1 ≤ 9 := by omega
      have h10 : (0 : Int) ≤ (m : Int) + 1 := by omega
      have h11 : ((m : Int) + 1).toNat = m + 1 := by omega
      have h12 : (m : Int) < (m : Int) + 1 := by omega
      clear hnone ha hc e1 e2 e3 hc128 ha128
      go_enter Tryz.func155, Tryz.ntmps155
      go_wp2_with (go_at_call 188; refine (HV.out _).mono ?_; rintro e wz ⟨rfl, hwz⟩; have hwz := hwz.symm; subst hwz)
      go_step3
      go_wp2
      go_loopg [9] 1 (fun g x wr => x = .int .i64 (m : Nat) ∧ wr = w ∧ 0 < g)
      case atStart => exact ⟨rfl, rfl, by omega⟩
      case round =>
        obtain ⟨rfl, hw, hg⟩ := hrel
        subst hw
        go_wp2
        go_step3
        go_wp2
        go_region
        all_goals
          go_wp2
          go_quiet (first | (go_at_call 187; exact (HIB.out _).mono fun _ _ he => ⟨he.1, _, he.2⟩))
          go_wp2
          simp only [Exit.noGoto_ret, Exit.inBlock, Exit.then]
          go_ret
          exact ⟨rfl, below_drewQ _ (Below.refl _ _)⟩
set_option maxHeartbeats 4000000 in
set_option maxRecDepth 100000 in
theorem isSign_high (r : Int) (h : 128 ≤ r) (w : World) : Calls Tryz.prog 102 #[.int .i32 r] w fun e w' => e = .returned (.bool false) ∧ Below w.heap.size w w' := by
  have HI := hide (idxRune_high r h w)
  have HC : Hid (Calls Tryz.prog 133 #[.string ⟨#[123, 125, 40, 41, 44, 59, 61, 126, 45]⟩, .int .i32 r] w fun e w' => e = .returned (.bool false) ∧ Below w.heap.size w w') := by
    unfold Hid
    go_enter Tryz.func133, Tryz.ntmps133
    go_wp2_with (go_at_call 155; refine HI.out.mono ?_; rintro e w1 ⟨rfl, x1⟩; have X1 := hide x1; clear x1)
    go_ret
    exact ⟨rfl, X1.out⟩
  clear HI
  go_enter Tryz.func102, Tryz.ntmps102
  go_wp2_with (go_at_call 133; refine HC.out.mono ?_; rintro e w1 ⟨rfl, x1⟩; have X1 := hide x1; clear x1)
  go_ret
  exact ⟨rfl, X1.out⟩
end Go.Proofs.YtlmhofjiobmodaaGreatDoor
/-
  begin by its contract, of a rune from 128 on, and so of any. No condition but the scanner's place.
-/
namespace Go.Proofs.YtlmhofjiobmodaaGreatDoor
open Go.RowKit Go.Lib

theorem sm_high {r : Int} (h : 128 ≤ r) : smB r = false := by unfold smB; have : decide (r ≤ 122) = false := (by simp; omega); rw [this, Bool.and_false]
theorem gr_high {r : Int} (h : 128 ≤ r) : grB r = false := by unfold grB; have : decide (r ≤ 90) = false := (by simp; omega); rw [this, Bool.and_false]
theorem dg_high {r : Int} (h : 128 ≤ r) : dgB r = false := by unfold dgB; have : decide (r ≤ 57) = false := (by simp; omega); rw [this, Bool.and_false]
theorem bl_high {r : Int} (h : 128 ≤ r) : blB r = false := by
  unfold blB
  have e1 : decide (r = 32) = false := by simp; omega
  have e2 : decide (r = 9) = false := by simp; omega
  have e3 : decide (r = 10) = false := by simp; omega
  have e4 : decide (r = 13) = false := by simp; omega
  rw [e1, e2, e3, e4]
  rfl
theorem sg_high {r : Int} (h : 128 ≤ r) : sgB r = false := by
  rw [← Bool.not_eq_true]
  intro hs
  have hcs : r = 123 ∨ r = 125 ∨ r = 40 ∨ r = 41 ∨ r = 44 ∨ r = 59 ∨ r = 61 ∨ r = 126 ∨ r = 45 := by simpa [sgB, or_assoc] using hs
  omega
theorem tx_high {r : Int} (h : 128 ≤ r) : txB r = false := by unfold txB; have : decide (r ≤ 126) = false := (by simp; omega); rw [this, Bool.and_false]
theorem es_high {r : Int} (h : 128 ≤ r) : esB r = false := by
  unfold esB
  have e1 : decide (r = 34) = false := by simp; omega
  have e2 : decide (r = 92) = false := by simp; omega
  rw [e1, e2]
  rfl
theorem beginP_high (x : SS) (q : Int) {r : Int} (h : 128 ≤ r) : beginP x q r = (80, { x with fr := q, st := 0 }) := by
  unfold beginP
  rw [if_neg (by rw [bl_high h]; decide), if_neg (by omega), if_neg (by rw [sm_high h]; decide), if_neg (by rw [gr_high h]; decide), if_neg (by rw [dg_high h]; decide), if_neg (by omega), if_neg (by rw [sg_high h]; decide)]
section
variable {w : World} {base p : Nat} {s : By} {x : SS}
set_option maxHeartbeats 4000000 in
set_option maxRecDepth 100000 in
theorem begin_high (h : ScA w base p s x) (q r : Int) (h1 : 128 ≤ r) :
    Calls Tryz.prog 63 #[.pointer (some ⟨p, 0, none⟩), .int .i64 q, .int .i32 r] w fun e w' => ScE w base p s (beginP x q r) e w' := by
  obtain ⟨tv, ad, bv, h⟩ := h
  obtain ⟨c0, c2, c3, f2, f3⟩ := h.cells
  obtain ⟨s1, k1⟩ := h.setFr q
  obtain ⟨s2, k2⟩ := s1.setSt 0
  have K2 := hide (k1.trans k2)
  have S2 := hide s2
  have H1 := hide (fun W => isBlank_any r W)
  have H2 := hide (fun W => isSmall_any r W)
  have H3 := hide (fun W => isGreat_any r W)
  have H4 := hide (fun W => isDigit_any r W)
  have H5 := hide (fun W => isSign_high r h1 W)
  have HM := hide (beginP_high x q h1)
  rw [bl_high h1] at H1
  rw [sm_high h1] at H2
  rw [gr_high h1] at H3
  rw [dg_high h1] at H4
  have e35 : (r == 35) = false := by simp; omega
  have e34 : (r == 34) = false := by simp; omega
  have n35 : ¬ r = 35 := by omega
  have n34 : ¬ r = 34 := by omega
  clear h s1 s2 k1 k2 h1
  go_enter Tryz.func63, Tryz.ntmps63
  go_upto_region 4 with fail
  obtain ⟨w2, hw2⟩ : ∃ w2, w2 = (w.setCell ⟨p, 3, none⟩ (.int .i64 q)).setCell ⟨p, 2, none⟩ (.int .i64 0) := ⟨_, rfl⟩
  rw [← hw2] at S2 K2 ⊢
  clear hw2 c0 c2 c3 f2 f3
  have HS := hide K2.out.size
  go_wp2_with (first | (go_at_call 101; refine (H1.out _).mono ?_; rintro e wz ⟨rfl, hwz⟩; have hwz := hwz.symm; subst hwz) | (go_at_call 92; refine (H2.out _).mono ?_; rintro e wz ⟨rfl, hwz⟩; have hwz := hwz.symm; subst hwz) | (go_at_call 94; refine (H3.out _).mono ?_; rintro e wz ⟨rfl, hwz⟩; have hwz := hwz.symm; subst hwz) | (go_at_call 93; refine (H4.out _).mono ?_; rintro e wz ⟨rfl, hwz⟩; have hwz := hwz.symm; subst hwz) | (go_at_call 102; refine (H5.out _).mono ?_; rintro e w3 ⟨rfl, x3⟩; have X3 := hide x3; clear x3))
  go_ret
  rw [HM.out]
  exact ⟨rfl, ⟨_, _, _, S2.out.below X3.out⟩, K2.out.trans (KpT.of_below X3.out), Nat.le_trans HS.out X3.out.size⟩
theorem begin_all (h : ScA w base p s x) (q r : Int) (h0 : 0 ≤ r) (hb : base ≤ w.heap.size) (hl : x.tk.length ≤ 4294967296) :
    Calls Tryz.prog 63 #[.pointer (some ⟨p, 0, none⟩), .int .i64 q, .int .i32 r] w fun e w' => ScE w base p s (beginP x q r) e w' := by
  by_cases h1 : r < 128
  · exact begin_any h q r h0 h1 hb hl
  · exact begin_high h q r (by omega)
end
end Go.Proofs.YtlmhofjiobmodaaGreatDoor
