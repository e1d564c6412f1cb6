/-
  The document's has and escaped by their contracts. Condition: the byte is 32 to 126.
-/
import Derived.Test.YtaiijdnfimclbaaEsc
import Derived.Test.YtaiijdnfimclbaaStx
import Derived.Test.YtaiijdnfimclbaaPrt
import Derived.Test.YtaiijdnfimclbaaRrt
import Derived.Laws.BytesArg
namespace Go.Proofs.Ytaiijdnfimclbaa
open Go.RowKit Go.Lib

def hasB (q : By) (b : Int) : Bool := q.contains (bU b)
theorem rconv_1 (W : World) (a0 : Int) : (convert 65 9 (.slice (some ⟨W.heap.size, 0, none⟩) 1 1)).run Try.prog (W.alloc (.cells #[.int .u8 a0] 5)) = .ok (.string (strOfNums [a0])) (W.alloc (.cells #[.int .u8 a0] 5)) :=
  run_convert_bytes_arg _ 65 5 (by kernel_rfl) (by kernel_rfl) _ 0 1 1 [a0] rfl (fun i hi => by match i, hi with | 0, _ => simp) 9 (by kernel_rfl)
theorem rconv_2 (W : World) (a0 a1 : Int) : (convert 65 9 (.slice (some ⟨W.heap.size, 0, none⟩) 2 2)).run Try.prog (W.alloc (.cells #[.int .u8 a0, .int .u8 a1] 5)) = .ok (.string (strOfNums [a0, a1])) (W.alloc (.cells #[.int .u8 a0, .int .u8 a1] 5)) :=
  run_convert_bytes_arg _ 65 5 (by kernel_rfl) (by kernel_rfl) _ 0 2 2 [a0, a1] rfl (fun i hi => by match i, hi with | 0, _ => simp | 1, _ => simp) 9 (by kernel_rfl)
theorem has_next {q : By} {c : UInt8} {k : Nat} (hk : k < q.length) (h : (q.take k).contains c = false) (hc : ¬ q[k] = c) : (q.take (k + 1)).contains c = false := by
  rw [List.take_succ_eq_append_getElem hk]
  simp only [List.contains_eq_mem, decide_eq_false_iff_not, List.mem_append, List.mem_singleton] at h ⊢
  rintro (h1 | h1)
  · exact h h1
  · exact hc h1.symm
set_option maxRecDepth 100000 in
set_option maxHeartbeats 1000000 in
theorem refHasB_any (q : By) (b : Int) (w : World) (hq : q.length ≤ 140737488351232) (h0 : 32 ≤ b) (h1 : b ≤ 126) : Calls Try.prog 56 #[.string ⟨q.toArray⟩, .int .u8 b] w fun e w' => e = .returned (.bool (hasB q b)) ∧ w' = w := by
  go_enter Try.func56, Try.ntmps56
  go_wp2
  go_loopw [5] (fun x wr => ∃ k : Nat, k ≤ q.length ∧ x = .int .i64 k ∧ Hid ((q.take k).contains (bU b) = false) ∧ Hid (wr = w)) (fun x _ => q.length - (RowKit.intOf x).toNat)
  case atStart => exact ⟨0, Nat.zero_le _, rfl, by simp [Hid], hide rfl⟩
  case round =>
    obtain ⟨k, hk, rfl, F, EW⟩ := hrel
    by_cases hlt : k < q.length
    · have hlt' : (k : Int) < (q.length : Int) := by omega
      obtain ⟨c, hcc⟩ : ∃ c, q[k] = c := ⟨_, rfl⟩
      have hg' : ∀ hk, (⟨q.toArray⟩ : ByteArray)[k]'hk = c := fun _ => hcc
      have HCC := hide hcc
      have HQ : Hid ((c.toNat : Int) = b ↔ c = bU b) := by
        unfold Hid bU
        constructor
        · intro h
          apply UInt8.toNat_inj.1
          rw [UInt8.toNat_ofNat']
          omega
        · intro h
          rw [h, UInt8.toNat_ofNat']
          omega
      clear hcc
      by_cases hb : (c.toNat : Int) = b
      · have HY : Hid (hasB q b = true) := by
          unfold Hid hasB
          rw [← HQ.out.1 hb, ← HCC.out]
          simp
        go_wp2
        go_ret
        exact ⟨by rw [HY.out]; rfl, EW.out⟩
      · have HN := hide (has_next hlt F.out (fun h => hb (HQ.out.2 (HCC.out.symm.trans h))))
        go_wp2
        go_roundw
        case rel => exact ⟨k + 1, by omega, by go_num, HN, EW⟩
        case measure => simp [RowKit.intOf]; omega
    · have hnl : ¬ (k : Int) < (q.length : Int) := by omega
      have HY : Hid (hasB q b = false) := by
        have := F.out
        unfold Hid hasB
        rwa [List.take_of_length_le (by omega)] at this
      go_wp2
      go_ret
      exact ⟨by rw [HY.out]; rfl, EW.out⟩
set_option maxRecDepth 100000 in
set_option maxHeartbeats 1000000 in
theorem refEscaped_any (b : Int) (q : By) (w : World) (hq : q.length ≤ 140737488351232) (h0 : 32 ≤ b) (h1 : b ≤ 126) : Calls Try.prog 33 #[.int .i64 b, .string ⟨q.toArray⟩] w fun e w' => e = .returned (.string ⟨(escL b q).toArray⟩) ∧ Below w.heap.size w w' := by
  have w2 : IntKind.u8.wrap b = b := by simp [IntKind.wrap, IntKind.bits, IntKind.signed]; omega
  have HI := hide (refHasB_any q b w hq h0 h1)
  have hc1 := rconv_1
  have hc2 := rconv_2
  cases hx : hasB q b with
  | true =>
    have HE : Hid (escL b q = [92, bU b]) := by unfold Hid escL; rw [if_pos (show q.contains (bU b) = true from hx)]
    rw [hx] at HI
    go_enter Try.func33, Try.ntmps33
    go_wp2_with (go_at_call 56; refine HI.out.mono ?_; rintro e w2 ⟨rfl, hw2⟩; subst hw2)
    go_ret
    exact ⟨by rw [HE.out]; rfl, al (Below.refl _ _) _⟩
  | false =>
    have HE : Hid (escL b q = [bU b]) := by unfold Hid escL; rw [if_neg (by rw [show q.contains (bU b) = false from hx]; decide)]
    rw [hx] at HI
    go_enter Try.func33, Try.ntmps33
    go_wp2_with (go_at_call 56; refine HI.out.mono ?_; rintro e w2 ⟨rfl, hw2⟩; subst hw2)
    go_ret
    exact ⟨by rw [HE.out]; rfl, al (Below.refl _ _) _⟩
end Go.Proofs.Ytaiijdnfimclbaa
