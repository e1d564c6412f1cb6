/-
  The statements' takes, walked. Condition: the piece is right; the text takes no more than a process can hold.
-/
import Derived.Test.YtaiijdnfimclbaaTks
namespace Go.Proofs.Ytaiijdnfimclbaa
open Go.RowKit Go.Lib

theorem memB_take (n : Int) (L : List Spn) (k : Nat) (h : k < L.length) : memB n (L.take (k + 1)) = (memB n (L.take k) || (decide (L[k].1 ≤ n) && decide (n ≤ L[k].2))) := by
  rw [List.take_succ_eq_append_getElem h, memB_append, memB_cons, memB_nil, Bool.or_false]
theorem eq47 (c : UInt8) : (((c.toNat : Nat) : Int) == 47) = decide (c = 47) := by
  have := slash_tk c
  rw [bne] at this
  cases h1 : (((c.toNat : Nat) : Int) == 47) <;> cases h2 : decide (c = 47) <;> simp_all
set_option maxRecDepth 100000 in
set_option maxHeartbeats 8000000 in
theorem takes_any (kd kb : Int) (kn : Bool) (ks : Option Addr) (kc : Nat) (L : List Spn) (s : By) (w : World) (hs : s.length ≤ 140737488351232) (hl : L.length ≤ 4294967296) (hR : Rp ⟨kd, kb, kn, L⟩) (hat : SpAt w ks L) :
    Calls Try.prog 23 #[.agg #[.int .i64 kd, .int .i64 kb, .bool kn, .slice ks L.length kc], .string ⟨s.toArray⟩] w fun e w' => e = .returned (.bool (takesB ⟨kd, kb, kn, L⟩ s)) ∧ Below w.heap.size w w' := by
  have X0 := hide (al (Below.refl w.heap.size w) (.cells #[.int .i64 kd, .int .i64 kb, .bool kn, .slice ks L.length kc] 44))
  have B0 := hide (heap_alloc_new w (.cells #[.int .i64 kd, .int .i64 kb, .bool kn, .slice ks L.length kc] 44))
  have HAT := hide hat
  have HR := hide hR
  clear hat hR
  go_enter Try.func23, Try.ntmps23
  go_wp2
  go_loopw [5, 6] (fun sl x wr => ∃ k : Nat, k ≤ s.length ∧ x = .int .i64 k ∧ sl = .bool (slashB (s.take k)) ∧ wr = w.alloc (.cells #[.int .i64 kd, .int .i64 kb, .bool kn, .slice ks L.length kc] 44)) (fun _ x _ => s.length - (RowKit.intOf x).toNat)
  case atStart => exact ⟨0, Nat.zero_le _, rfl, rfl, rfl⟩
  case round =>
    obtain ⟨k, hk, rfl, rfl, rfl⟩ := hrel
    by_cases hlt : k < s.length
    · have hlt' : (k : Int) < (s.length : Int) := by omega
      obtain ⟨c, hcc⟩ : ∃ c, s[k] = c := ⟨_, rfl⟩
      have hg' : ∀ hk, (⟨s.toArray⟩ : ByteArray)[k]'hk = c := fun _ => hcc
      have HTS : Hid (slashB (s.take (k + 1)) = (slashB (s.take k) || decide (c = 47))) := by unfold Hid; rw [List.take_succ_eq_append_getElem hlt, slashB_snoc, hcc]
      have HE := hide (eq47 c)
      cases hsl : slashB (s.take k) with
      | true =>
        rw [hsl] at HTS
        clear hsl
        go_wp2
        go_roundw
        case rel => exact ⟨k + 1, by omega, by go_num, by rw [HTS.out]; rfl, trivial⟩
        case measure => simp [RowKit.intOf]; omega
      | false =>
        rw [hsl] at HTS
        clear hsl
        go_wp2
        go_roundw
        case rel => exact ⟨k + 1, by omega, by go_num, by rw [HTS.out, Bool.false_or, ← HE.out], trivial⟩
        case measure => simp [RowKit.intOf]; omega
    · have hnl : ¬ (k : Int) < (s.length : Int) := by omega
      have hkl : k = s.length := by omega
      subst hkl
      rw [List.take_length]
      obtain ⟨c0, c1, c2, c3⟩ := cells4 B0.out
      have hw := lt_of_block B0.out
      generalize hW : w.alloc (.cells #[.int .i64 kd, .int .i64 kb, .bool kn, .slice ks L.length kc] 44) = W at *
      clear hW
      rcases rp_kinds HR.out with hk | hk | hk | hk | hk
      · simp only at hk
        subst hk
        by_cases h1 : s.length = 1
        · obtain ⟨c, rfl⟩ := List.length_eq_one_iff.1 h1
          have HT : Hid (takesB ⟨1, kb, kn, L⟩ [c] = decide (((c.toNat : Nat) : Int) = kb)) := by simp [Hid, takesB]
          have hg' : ∀ hk, (⟨[c].toArray⟩ : ByteArray)[0]'hk = c := fun _ => rfl
          have w2 : IntKind.i64.wrap (c.toNat : Int) = (c.toNat : Int) := by have := c.toNat_lt; simp [IntKind.wrap, IntKind.bits, IntKind.signed]; omega
          go_wp2
          go_quiet (fail)
          go_wp2
          go_ret
          exact ⟨by rw [HT.out]; rfl, X0.out.trans ((below_drewN _ _ _).mono X0.out.size)⟩
        · have h1' : ¬ ((s.length : Nat) : Int) = 1 := by omega
          have HT : Hid (takesB ⟨1, kb, kn, L⟩ s = false) := by
            unfold Hid takesB
            match s, h1 with
            | [], _ => rfl
            | [c], h => exact absurd rfl h
            | c :: d :: t, _ => simp
          go_wp2
          go_quiet (fail)
          go_wp2
          go_ret
          exact ⟨by rw [HT.out]; rfl, X0.out.trans ((below_drewN _ _ _).mono X0.out.size)⟩
      · simp only at hk
        subst hk
        by_cases h1 : s.length = 1
        · obtain ⟨c, rfl⟩ := List.length_eq_one_iff.1 h1
          have HT : Hid (takesB ⟨2, kb, kn, L⟩ [c] = !slashB [c]) := by simp [Hid, takesB]
          generalize slashB [c] = sl at *
          go_wp2
          go_ret
          exact ⟨by rw [HT.out]; rfl, X0.out⟩
        · have h1' : ¬ ((s.length : Nat) : Int) = 1 := by omega
          have HT : Hid (takesB ⟨2, kb, kn, L⟩ s = false) := by
            unfold Hid takesB
            match s, h1 with
            | [], _ => rfl
            | [c], h => exact absurd rfl h
            | c :: d :: t, _ => simp
          go_wp2
          go_ret
          exact ⟨by rw [HT.out]; rfl, X0.out⟩
      · simp only at hk
        subst hk
        have hne := (Rp_set.1 HR.out).2.2.1
        have hL0 : 0 < L.length := by cases L with | nil => exact absurd rfl hne | cons x L => simp
        by_cases h1 : s.length = 1
        · obtain ⟨c, rfl⟩ := List.length_eq_one_iff.1 h1
          have HT : Hid (takesB ⟨3, kb, kn, L⟩ [c] = (!slashB [c] && (memB ((c.toNat : Nat) : Int) L != kn))) := by simp [Hid, takesB]
          have hg' : ∀ hk, (⟨[c].toArray⟩ : ByteArray)[0]'hk = c := fun _ => rfl
          have w2 : IntKind.i64.wrap (c.toNat : Int) = (c.toNat : Int) := by have := c.toNat_lt; simp [IntKind.wrap, IntKind.bits, IntKind.signed]; omega
          have HL1 : Hid (∀ x y z : Nat, x = x) := fun _ _ _ => rfl
          generalize slashB [c] = sl at *
          go_wp2
          go_loopw [7, 8] (fun so x wr => ∃ k : Nat, k ≤ L.length ∧ x = .int .i64 k ∧ so = .bool (memB ((c.toNat : Nat) : Int) (L.take k)) ∧ Hid (Below W.heap.size W wr)) (fun _ x _ => L.length - (RowKit.intOf x).toNat)
          case atStart => exact ⟨0, Nat.zero_le _, rfl, rfl, Below.refl _ _⟩
          case round =>
            obtain ⟨k, hk, rfl, rfl, X⟩ := hrel
            rename World => wr
            have d3 := (X.out.cell (p := ⟨w.heap.size, 3, none⟩) hw).trans c3
            have d2 := (X.out.cell (p := ⟨w.heap.size, 2, none⟩) hw).trans c2
            by_cases hlt : k < L.length
            · have hlt' : (k : Int) < (L.length : Int) := by omega
              obtain ⟨pb, off, rfl, hb, hc⟩ := HAT.out.get hlt
              obtain ⟨r1, r2⟩ := ((hc k hlt).below X0.out hb).below X.out (Nat.lt_of_lt_of_le hb X0.out.size)
              have hgd : L.getD k (0, 0) = L[k] := by simp [List.getD_eq_getElem?_getD, hlt]
              have HMT := hide (memB_take ((c.toNat : Nat) : Int) L k hlt)
              rw [hgd] at r1 r2
              generalize L[k] = sp at *
              clear hc hgd
              cases hm : memB ((c.toNat : Nat) : Int) (L.take k) with
              | true =>
                rw [hm] at HMT
                clear hm
                go_wp2
                go_quiet (fail)
                go_wp2
                go_roundw
                case rel => exact ⟨k + 1, by omega, by go_num, by rw [HMT.out]; rfl, X.out.trans (below_drewN _ _ _)⟩
                case measure => simp [RowKit.intOf]; omega
              | false =>
                rw [hm, Bool.false_or] at HMT
                clear hm
                by_cases ha : sp.1 ≤ ((c.toNat : Nat) : Int)
                · rw [decide_eq_true ha, Bool.true_and] at HMT
                  go_wp2
                  go_quiet (fail)
                  go_wp2
                  go_roundw
                  case rel => exact ⟨k + 1, by omega, by go_num, by rw [HMT.out], X.out.trans (below_drewN _ _ _)⟩
                  case measure => simp [RowKit.intOf]; omega
                · rw [decide_eq_false ha, Bool.false_and] at HMT
                  go_wp2
                  have had : decide (sp.1 ≤ ((c.toNat : Nat) : Int)) = false := decide_eq_false (by omega)
                  go_quiet (fail)
                  go_wp2
                  go_roundw
                  case rel => exact ⟨k + 1, by omega, by go_num, by rw [HMT.out], X.out.trans (below_drewN _ _ _)⟩
                  case measure => simp [RowKit.intOf]; omega
            · have hnl : ¬ (k : Int) < (L.length : Int) := by omega
              have hkl : k = L.length := by omega
              subst hkl
              rw [List.take_length]
              generalize memB ((c.toNat : Nat) : Int) L = mb at *
              cases sl with
              | true =>
                go_wp2
                go_ret
                exact ⟨by rw [HT.out]; rfl, bt X0.out X.out (Nat.le_refl _)⟩
              | false =>
                go_wp2
                go_ret
                exact ⟨by rw [HT.out]; rfl, bt X0.out X.out (Nat.le_refl _)⟩
        · have h1' : ¬ ((s.length : Nat) : Int) = 1 := by omega
          have hL0' : (0 : Int) < (L.length : Int) := by omega
          have HT : Hid (takesB ⟨3, kb, kn, L⟩ s = false) := by
            unfold Hid takesB
            match s, h1 with
            | [], _ => rfl
            | [c], h => exact absurd rfl h
            | c :: d :: t, _ => simp
          go_wp2
          go_loopw [7, 8] (fun so x wr => x = .int .i64 0 ∧ so = .bool false ∧ wr = W) (fun _ _ _ => 0)
          case atStart => exact ⟨rfl, rfl, rfl⟩
          case round =>
            obtain ⟨rfl, rfl, rfl⟩ := hrel
            go_wp2
            go_ret
            exact ⟨by rw [HT.out]; rfl, X0.out⟩
      · simp only at hk
        subst hk
        have HT : Hid (takesB ⟨4, kb, kn, L⟩ s = !slashB s) := by simp [Hid, takesB]
        generalize slashB s = sl at *
        go_wp2
        go_ret
        exact ⟨by rw [HT.out]; rfl, X0.out⟩
      · simp only at hk
        subst hk
        have HT : Hid (takesB ⟨5, kb, kn, L⟩ s = true) := by simp [Hid, takesB]
        go_wp2
        go_ret
        exact ⟨by rw [HT.out]; rfl, X0.out⟩
end Go.Proofs.Ytaiijdnfimclbaa
