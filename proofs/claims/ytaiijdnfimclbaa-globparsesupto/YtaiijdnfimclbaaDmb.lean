/-
  The document's plain and member by their contracts. Condition: the text is no longer than a process can hold.
-/
import Derived.Test.YtaiijdnfimclbaaMPar
import Derived.Test.YtaiijdnfimclbaaRdr
namespace Go.Proofs.Ytaiijdnfimclbaa
open Go.RowKit Go.Lib

def plB (c : UInt8) : Bool := decide (32 ≤ c.toNat ∧ c.toNat ≤ 126)
set_option maxRecDepth 100000 in
theorem plain_any (c : UInt8) (w : World) : Calls Try.prog 24 #[.int .u8 (c.toNat : Nat)] w fun e w' => e = .returned (.bool (plB c)) ∧ w' = w := by
  by_cases h1 : (32 : Int) ≤ (c.toNat : Int)
  · by_cases h2 : (c.toNat : Int) ≤ 126
    · have HE : Hid (plB c = true) := by unfold Hid plB; exact decide_eq_true ⟨by omega, by omega⟩
      go_enter Try.func24, Try.ntmps24
      go_wp2
      go_ret
      exact ⟨by rw [HE.out]; first | rfl | simp_all, rfl⟩
    · have HE : Hid (plB c = false) := by unfold Hid plB; exact decide_eq_false (by omega)
      go_enter Try.func24, Try.ntmps24
      go_wp2
      go_ret
      exact ⟨by rw [HE.out]; first | rfl | simp_all, rfl⟩
  · have HE : Hid (plB c = false) := by unfold Hid plB; exact decide_eq_false (by omega)
    go_enter Try.func24, Try.ntmps24
    go_wp2
    go_ret
    exact ⟨by rw [HE.out]; first | rfl | simp_all, rfl⟩
/-- What member tells. -/
def MbV (n : Nat) : Except By (UInt8 × By) → Value
  | .ok (c, t) => .tuple #[.int .i64 (c.toNat : Nat), .int .i64 ((n - t.length : Nat) : Int), .int .i64 0]
  | .error t => .tuple #[.int .i64 (-1), .int .i64 0, .int .i64 ((n - t.length : Nat) : Int)]
theorem drop_cons {s : By} {k : Nat} (h : k < s.length) : s.drop k = s[k] :: s.drop (k + 1) := List.drop_eq_getElem_cons h
theorem pre1 (c d : UInt8) (t : By) : ([c].isPrefixOf (d :: t)) = decide (c = d) := by
  by_cases h : c = d
  · subst h; simp [List.isPrefixOf]
  · simp [List.isPrefixOf, h]
theorem tkL_cons (c : UInt8) (t : By) : tkL 32 (c :: t) = if plB c then .ok (c, t) else .error (c :: t) := by
  show (if 32 ≤ c.toNat ∧ c.toNat ≤ 126 then Except.ok (c, t) else Except.error (c :: t)) = _
  unfold plB
  by_cases h : 32 ≤ c.toNat ∧ c.toNat ≤ 126
  · rw [if_pos h, if_pos (decide_eq_true h)]
  · rw [if_neg h, if_neg (by rw [decide_eq_false h]; decide)]
theorem len_at {s : By} {k : Nat} (h : k ≤ s.length) : s.length - (s.drop k).length = k := by rw [List.length_drop]; omega
theorem mb_end (s : By) : mbL 32 (s.drop s.length) = .error (s.drop s.length) := by rw [List.drop_length]; rfl
theorem mb_bs {s : By} {k : Nat} (h : k < s.length) (hc : s[k] = 92) : mbL 32 (s.drop k) = tkL 32 (s.drop (k + 1)) := by
  rw [drop_cons h, hc]
  unfold mbL
  rw [pre1, if_pos (by decide)]
  rfl
theorem mb_no {s : By} {k : Nat} (h : k < s.length) (hc : ¬ s[k] = 92) : mbL 32 (s.drop k) = if decide (s[k] = 93) || decide (s[k] = 45) then .error (s.drop k) else tkL 32 (s.drop k) := by
  rw [drop_cons h]
  unfold mbL
  rw [pre1, pre1, pre1, if_neg (by rw [decide_eq_false (fun h => hc h.symm)]; decide)]
  have e1 : (decide ((93 : UInt8) = s[k])) = decide (s[k] = 93) := by simp [eq_comm]
  have e2 : (decide ((45 : UInt8) = s[k])) = decide (s[k] = 45) := by simp [eq_comm]
  rw [e1, e2]
theorem u8_int (c : UInt8) (d : Nat) (hd : d < 256) : ((c.toNat : Nat) : Int) = (d : Int) ↔ c = UInt8.ofNat d := by
  constructor
  · intro h
    apply UInt8.toNat_inj.1
    rw [UInt8.toNat_ofNat']
    omega
  · intro h
    rw [h, UInt8.toNat_ofNat']
    omega
set_option maxRecDepth 100000 in
set_option maxHeartbeats 4000000 in
theorem refMember_any (s : By) (k : Nat) (w : World) (hs : s.length ≤ 140737488351232) (hk : k ≤ s.length) : Calls Try.prog 40 #[.string ⟨s.toArray⟩, .int .i64 (k : Nat)] w fun e w' => e = .returned (MbV s.length (mbL 32 (s.drop k))) ∧ w' = w := by
  have HP := hide plain_any
  by_cases hlt : k < s.length
  · have hlt' : (k : Int) < (s.length : Int) := by omega
    have hne : ¬ (k : Int) = (s.length : Int) := by omega
    obtain ⟨c, hcc⟩ : ∃ c, s[k] = c := ⟨_, rfl⟩
    have hg' : ∀ hk, (⟨s.toArray⟩ : ByteArray)[k]'hk = c := fun _ => hcc
    have HCC := hide hcc
    have w2 : IntKind.i64.wrap (c.toNat : Int) = (c.toNat : Int) := by have := c.toNat_lt; simp [IntKind.wrap, IntKind.bits, IntKind.signed]; omega
    clear hcc
    by_cases h92 : c = 92
    · have HM := hide (mb_bs hlt (HCC.out.trans h92))
      subst h92
      by_cases hl1 : k + 1 < s.length
      · have hl1' : (k : Int) + 1 < (s.length : Int) := by omega
        obtain ⟨c1, hc1⟩ : ∃ c, s[k + 1] = c := ⟨_, rfl⟩
        have hg1 : ∀ hk, (⟨s.toArray⟩ : ByteArray)[k + 1]'hk = c1 := fun _ => hc1
        have w3 : IntKind.i64.wrap (c1.toNat : Int) = (c1.toNat : Int) := by have := c1.toNat_lt; simp [IntKind.wrap, IntKind.bits, IntKind.signed]; omega
        have HT : Hid (mbL 32 (s.drop k) = if plB c1 then .ok (c1, s.drop (k + 2)) else .error (s.drop (k + 1))) := by
          unfold Hid
          rw [HM.out, drop_cons hl1, hc1, tkL_cons]
        have HQ := hide (HP.out c1)
        have z1 : Hid (s.length - (s.drop (k + 2)).length = k + 2) := len_at (by omega)
        have z2 : Hid (s.length - (s.drop (k + 1)).length = k + 1) := len_at (by omega)
        clear hc1 HP HM
        cases hp : plB c1 with
        | true =>
          rw [hp] at HQ HT
          go_enter Try.func40, Try.ntmps40
          go_wp2_with (go_at_call 24; refine (HQ.out _).mono ?_; rintro e w2 ⟨rfl, hw2⟩; subst hw2)
          go_ret3
          refine ⟨?_, rfl⟩
          rw [HT.out]
          show _ = Ending.returned (.tuple #[.int .i64 (c1.toNat : Nat), .int .i64 ((s.length - (s.drop (k + 2)).length : Nat) : Int), .int .i64 0])
          rw [z1.out]
          first | rfl | (simp; omega)
        | false =>
          rw [hp] at HQ HT
          go_enter Try.func40, Try.ntmps40
          go_wp2_with (go_at_call 24; refine (HQ.out _).mono ?_; rintro e w2 ⟨rfl, hw2⟩; subst hw2)
          go_ret3
          refine ⟨?_, rfl⟩
          rw [HT.out]
          show _ = Ending.returned (.tuple #[.int .i64 (-1), .int .i64 0, .int .i64 ((s.length - (s.drop (k + 1)).length : Nat) : Int)])
          rw [z2.out]
          first | rfl | simp
      · have hl1' : ¬ (k : Int) + 1 < (s.length : Int) := by omega
        have HT : Hid (mbL 32 (s.drop k) = .error []) := by
          unfold Hid
          rw [HM.out, List.drop_of_length_le (by omega)]
          rfl
        have hkl : Hid (s.length = k + 1) := by unfold Hid; omega
        clear HP HM
        go_enter Try.func40, Try.ntmps40
        go_wp2
        go_ret3
        refine ⟨?_, rfl⟩
        rw [HT.out]
        show _ = Ending.returned (.tuple #[.int .i64 (-1), .int .i64 0, .int .i64 ((s.length - 0 : Nat) : Int)])
        rw [Nat.sub_zero, hkl.out]
        first | rfl | simp
    · have h92' : ¬ (c.toNat : Int) = 92 := fun h => h92 ((u8_int c 92 (by decide)).1 h)
      have HM := hide (mb_no hlt (fun h => h92 (HCC.out.symm.trans h)))
      rw [HCC.out] at HM
      have HM2 : Hid (tkL 32 (s.drop k) = if plB c then .ok (c, s.drop (k + 1)) else .error (s.drop k)) := by
        unfold Hid
        rw [drop_cons hlt, HCC.out, tkL_cons]
      have z1 : Hid (s.length - (s.drop (k + 1)).length = k + 1) := len_at (by omega)
      have z2 : Hid (s.length - (s.drop k).length = k) := len_at (by omega)
      have HQ := hide (HP.out c)
      clear HP
      have HBAD : Hid (mbL 32 (s.drop k) = .error (s.drop k) → Ending.returned (.tuple #[.int .i64 (-1), .int .i64 0, .int .i64 (k : Nat)]) = .returned (MbV s.length (mbL 32 (s.drop k)))) := fun h => by
        rw [h]
        show _ = Ending.returned (.tuple #[.int .i64 (-1), .int .i64 0, .int .i64 ((s.length - (s.drop k).length : Nat) : Int)])
        rw [z2.out]
      cases hp : plB c with
      | false =>
        have HT : Hid (mbL 32 (s.drop k) = .error (s.drop k)) := by
          unfold Hid
          rw [HM.out, HM2.out, hp]
          simp
        rw [hp] at HQ
        go_enter Try.func40, Try.ntmps40
        go_wp2_with (go_at_call 24; refine (HQ.out _).mono ?_; rintro e w2 ⟨rfl, hw2⟩; subst hw2)
        go_ret3
        exact ⟨HBAD.out HT.out, rfl⟩
      | true =>
        rw [hp] at HQ HM2
        by_cases h93 : c = 93
        · have HT : Hid (mbL 32 (s.drop k) = .error (s.drop k)) := by unfold Hid; rw [HM.out, h93]; simp
          subst h93
          go_enter Try.func40, Try.ntmps40
          go_wp2_with (go_at_call 24; refine (HQ.out _).mono ?_; rintro e w2 ⟨rfl, hw2⟩; subst hw2)
          go_ret3
          exact ⟨HBAD.out HT.out, rfl⟩
        · have h93' : ¬ (c.toNat : Int) = 93 := fun h => h93 ((u8_int c 93 (by decide)).1 h)
          by_cases h45 : c = 45
          · have HT : Hid (mbL 32 (s.drop k) = .error (s.drop k)) := by unfold Hid; rw [HM.out, h45]; simp
            subst h45
            go_enter Try.func40, Try.ntmps40
            go_wp2_with (go_at_call 24; refine (HQ.out _).mono ?_; rintro e w2 ⟨rfl, hw2⟩; subst hw2)
            go_ret3
            exact ⟨HBAD.out HT.out, rfl⟩
          · have h45' : ¬ (c.toNat : Int) = 45 := fun h => h45 ((u8_int c 45 (by decide)).1 h)
            have n93 : ¬ c.toNat = 93 := by omega
            have n45 : ¬ c.toNat = 45 := by omega
            have b93 : ((c.toNat : Int) == 93) = false := by simp; omega
            have b45 : ((c.toNat : Int) == 45) = false := by simp; omega
            have HT : Hid (mbL 32 (s.drop k) = .ok (c, s.drop (k + 1))) := by
              unfold Hid
              rw [HM.out, HM2.out, decide_eq_false h93, decide_eq_false h45]
              simp
            go_enter Try.func40, Try.ntmps40
            go_wp2_with (go_at_call 24; refine (HQ.out _).mono ?_; rintro e w2 ⟨rfl, hw2⟩; subst hw2)
            go_ret3
            refine ⟨?_, rfl⟩
            rw [HT.out]
            show _ = Ending.returned (.tuple #[.int .i64 (c.toNat : Nat), .int .i64 ((s.length - (s.drop (k + 1)).length : Nat) : Int), .int .i64 0])
            rw [z1.out]
            first | rfl | simp
  · have hkl : k = s.length := by omega
    subst hkl
    have hnl : ¬ (s.length : Int) < (s.length : Int) := by omega
    rw [List.drop_length]
    clear HP
    go_enter Try.func40, Try.ntmps40
    go_wp2
    go_ret3
    exact ⟨rfl, rfl⟩
end Go.Proofs.Ytaiijdnfimclbaa
