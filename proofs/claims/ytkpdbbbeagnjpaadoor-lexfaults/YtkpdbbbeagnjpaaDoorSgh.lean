/-
  isSign of a rune from 128 on: it is none. No condition.
-/
import Derived.Test.YtkpdbbbeagnjpaaDoorEnr
import Derived.Test.YtkpdbbbeagnjpaaDoorShm
import Derived.Laws.Runes
import Derived.WalkMore
import Derived.BigQuiet
namespace Go.Proofs.YtkpdbbbeagnjpaaDoor
open Go.RowKit Go.Lib

theorem sign_low : ∀ i (hi : i < signsL.length), signsL[i].toNat < 128 := by decide
theorem idx_none (l : By) (c : UInt8) (hl : ∀ b ∈ l, b.toNat < 128) (hc : 128 ≤ c.toNat) : Lib.indexByte l c = -1 := by
  induction l with
  | nil => rfl
  | cons b t ih =>
    have hb := hl b List.mem_cons_self
    have hne : (b == c) = false := by
      rw [beq_eq_false_iff_ne]
      intro e
      rw [e] at hb
      omega
    unfold Lib.indexByte
    rw [hne, if_neg (by decide), ih (fun x hx => hl x (List.mem_cons_of_mem _ hx))]
    rfl
theorem below_drewQ {B : Nat} {a w : World} (n : Nat) (h : Below B a w) : Below B a (w.drewN n) := ⟨h.os, h.tape, h.output, h.size, h.block⟩
set_option maxHeartbeats 4000000 in
set_option maxRecDepth 100000 in
theorem idxRune_high (r : Int) (h : 128 ≤ r) (w : World) : Calls Tryd.prog 46 #[.string ⟨#[123, 125, 40, 41, 44, 59, 61, 126, 45]⟩, .int .i32 r] w fun e w' => e = .returned (.int .i64 (-1)) ∧ Below w.heap.size w w' := by
  have h1 : (0 : Int) ≤ r := by omega
  have h2 : ¬ r < 128 := by omega
  by_cases he : r = 65533
  · subst he
    clear h h1 h2
    obtain ⟨s, hs⟩ : ∃ s : ByteArray, Hid (s = ⟨signsL.toArray⟩) := ⟨_, rfl⟩
    have hsl : (⟨#[123, 125, 40, 41, 44, 59, 61, 126, 45]⟩ : ByteArray) = s := hs.out.symm
    rw [hsl]
    clear hsl
    go_enter Tryd.func46, Tryd.ntmps46
    go_wp2
    go_loopw [] (fun wr => ∃ pos : Nat, wr.heap[w.heap.size]? = some (.stringIter s pos) ∧ Below w.heap.size w wr ∧ pos ≤ 9) (fun wr => 9 - wr.iterPos w.heap.size)
    case atStart =>
      refine ⟨0, ?_, (Below.refl _ w).alloc (Nat.le_refl _) _, by omega⟩
      have := World.iter_heap w s 0
      simpa using this
    case round =>
      obtain ⟨pos, hit, hbw, hp1⟩ := hrel
      have hsz : s.size = 9 := by rw [hs.out]; rfl
      by_cases hp : pos < 9
      · have hlow : (s[pos]'(by omega)).toNat < 128 := by
          have := sign_low pos hp
          have e : s[pos]'(by omega) = signsL[pos]'hp := by
            have := hs.out
            subst this
            exact bs_get signsL pos _
          rw [e]; exact this
        have hnx : ∀ ty, (Instr.next (.pointer (some ⟨w.heap.size, 0, none⟩)) true ty).run Tryd.prog wr = _ := fun ty => Lib.run_next_ascii_at wr w.heap.size s pos ty hit (by omega) hlow
        have HI2 := hide (Lib.iterAt_heap wr w.heap.size s pos (pos + 1) hit)
        have HX2 := hide (Lib.below_iterAt hbw (k := w.heap.size) (Nat.le_refl _) s (pos + 1))
        generalize (s[pos]'(by omega)).toNat = b at *
        have hb : ¬ (b : Int) = 65533 := by omega
        go_wp2
        go_roundw
        case rel => exact ⟨pos + 1, HI2.out, HX2.out, by omega⟩
        case measure =>
          simp only [World.iterPos, HI2.out, hit]
          omega
      · have hnx : ∀ ty, (Instr.next (.pointer (some ⟨w.heap.size, 0, none⟩)) true ty).run Tryd.prog wr = _ := fun ty => Lib.run_next_end_at wr w.heap.size s pos ty hit (by omega)
        have HX2 := hide hbw
        go_wp2
        go_ret
        exact ⟨rfl, HX2.out⟩
  · have he' : (r == 65533) = false := by simp [he]
    have HV := hide (fun W => Tryd.utf8_ValidRune r W)
    cases hv : Lib.validRune r with
    | false =>
      rw [hv] at HV
      clear hv
      go_enter Tryd.func46, Tryd.ntmps46
      go_wp2_with (go_at_call 58; refine (HV.out _).mono ?_; rintro e wz ⟨rfl, hwz⟩; have hwz := hwz.symm; subst hwz)
      go_ret
      exact ⟨rfl, Below.refl _ _⟩
    | true =>
      have hv2 : Utf8.valid r = true := by
        unfold Lib.validRune at hv
        simp only [decide_eq_true_eq] at hv
        unfold Utf8.valid
        simp
        omega
      rw [hv] at HV
      obtain ⟨e1, e2, e3⟩ := encode_facts r hv2 h
      generalize hE : Utf8.encode r = E at *
      have hE2 : ∀ W : World, (convert 21 9 (.int .i32 r)).run Tryd.prog W = .ok (.string E) W := fun W => by
        rw [run_convert_int_string W 21 9 .i32 r (by kernel_rfl) Tryd.underlying9, hE]
      clear hv hv2 hE
      obtain ⟨m, hm⟩ : ∃ m : Nat, E.size = m + 1 := ⟨E.size - 1, by omega⟩
      have hmE : m < E.size := by omega
      obtain ⟨c, hc⟩ : ∃ c, E[m]'hmE = c := ⟨_, rfl⟩
      have hgE : ∀ hk, E[m]'hk = c := fun _ => hc
      have hc128 : 128 ≤ c.toNat := by
        have := e3 (by omega)
        have e : E[E.size - 1]'(by omega) = E[m]'hmE := by congr 1; omega
        rw [e, hc] at this
        exact this
      have hm9 : m < signsL.length := by show m < 9; omega
      obtain ⟨a, ha⟩ : ∃ a, signsL[m]'hm9 = a := ⟨_, rfl⟩
      have ha128 : a.toNat < 128 := by rw [← ha]; exact sign_low m hm9
      have hgS : ∀ hk, (⟨#[123, 125, 40, 41, 44, 59, 61, 126, 45]⟩ : ByteArray)[m]'hk = a := fun hk => (bs_get signsL m hk).trans ha
      have HIB := hide (fun W => Tryd.strings_IndexByte ((⟨#[123, 125, 40, 41, 44, 59, 61, 126, 45]⟩ : ByteArray).extract (m + 1) 9) (c.toNat : Int) W)
      have hnone : Lib.indexByte ((⟨#[123, 125, 40, 41, 44, 59, 61, 126, 45]⟩ : ByteArray).extract (m + 1) 9).data.toList (c.toNat : Int).toNat.toUInt8 = -1 := by
        have e : (⟨#[123, 125, 40, 41, 44, 59, 61, 126, 45]⟩ : ByteArray).extract (m + 1) 9 = ⟨(cutB signsL (m + 1) 9).toArray⟩ := ext_cut signsL (m + 1) 9
        rw [e]
        refine idx_none _ _ (fun b hb => ?_) (by simpa using hc128)
        have : b ∈ signsL := by
          have hb2 : b ∈ cutB signsL (m + 1) 9 := by simpa using hb
          exact List.mem_of_mem_take (List.mem_of_mem_drop hb2)
        obtain ⟨i, hi, rfl⟩ := List.getElem_of_mem this
        exact sign_low i hi
      rw [hnone] at HIB
      have hne : ¬ (a.toNat : Int) = (c.toNat : Int) := by omega
      have hmi : (m : Int) < 9 := by omega
      have f1 : IntKind.i64.wrap ((m : Int) + 1 - 1) = (m : Int) := by rw [show (m : Int) + 1 - 1 = (m : Int) by omega]; simp [IntKind.wrap, IntKind.bits, IntKind.signed]; omega
      have f1' : IntKind.i64.wrap (m : Int) = (m : Int) := by simp [IntKind.wrap, IntKind.bits, IntKind.signed]; omega
      have f2 : IntKind.i64.wrap ((m : Int) + 1) = (m : Int) + 1 := by rw [show (m : Int) + 1 = ((m + 1 : Nat) : Int) by simp]; simp [IntKind.wrap, IntKind.bits, IntKind.signed]; omega
      have h9 : (m : Int) + 1 ≤ 9 := by omega
      have h10 : (0 : Int) ≤ (m : Int) + 1 := by omega
      have h11 : ((m : Int) + 1).toNat = m + 1 := by omega
      have h12 : (m : Int) < (m : Int) + 1 := by omega
      clear hnone ha hc e1 e2 e3 hc128 ha128
      go_enter Tryd.func46, Tryd.ntmps46
      go_wp2_with (go_at_call 58; refine (HV.out _).mono ?_; rintro e wz ⟨rfl, hwz⟩; have hwz := hwz.symm; subst hwz)
      go_step3
      go_wp2
      go_loopg [9] 1 (fun g x wr => x = .int .i64 (m : Nat) ∧ wr = w ∧ 0 < g)
      case atStart => exact ⟨rfl, rfl, by omega⟩
      case round =>
        obtain ⟨rfl, hw, hg⟩ := hrel
        subst hw
        go_wp2
        go_step3
        go_wp2
        go_region
        all_goals
          go_wp2
          go_quiet (first | (go_at_call 57; exact (HIB.out _).mono fun _ _ he => ⟨he.1, _, he.2⟩))
          go_wp2
          simp only [Exit.noGoto_ret, Exit.inBlock, Exit.then]
          go_ret
          exact ⟨rfl, below_drewQ _ (Below.refl _ _)⟩
set_option maxHeartbeats 4000000 in
set_option maxRecDepth 100000 in
theorem isSign_high (r : Int) (h : 128 ≤ r) (w : World) : Calls Tryd.prog 37 #[.int .i32 r] w fun e w' => e = .returned (.bool false) ∧ Below w.heap.size w w' := by
  have HI := hide (idxRune_high r h w)
  have HC : Hid (Calls Tryd.prog 45 #[.string ⟨#[123, 125, 40, 41, 44, 59, 61, 126, 45]⟩, .int .i32 r] w fun e w' => e = .returned (.bool false) ∧ Below w.heap.size w w') := by
    unfold Hid
    go_enter Tryd.func45, Tryd.ntmps45
    go_wp2_with (go_at_call 46; refine HI.out.mono ?_; rintro e w1 ⟨rfl, x1⟩; have X1 := hide x1; clear x1)
    go_ret
    exact ⟨rfl, X1.out⟩
  clear HI
  go_enter Tryd.func37, Tryd.ntmps37
  go_wp2_with (go_at_call 45; refine HC.out.mono ?_; rintro e w1 ⟨rfl, x1⟩; have X1 := hide x1; clear x1)
  go_ret
  exact ⟨rfl, X1.out⟩
end Go.Proofs.YtkpdbbbeagnjpaaDoor
