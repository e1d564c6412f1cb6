/-
  LexFaults answers true. Conditions: texts no longer than a process can hold; the library's ErrRange reads as its text lays it.
-/
import Derived.Test.YtkpdbbbeagnjpaaDoorAwk
import Derived.Test.YtkpdbbbeagnjpaaDoorSca
import Derived.Test.YtkpdbbbeagnjpaaDoorMFm
namespace Go.Proofs.YtkpdbbbeagnjpaaDoor
open Go.RowKit Go.Lib

/-- Two numbers added, up to the bound. -/
def addI (n m : Int) : Int := if 2147483647 - n < m then 2147483648 else n + m
set_option maxHeartbeats 4000000 in
theorem add2_any (n m : Int) (w : World) (h0 : 0 ≤ n) (h1 : n ≤ 281474976710656) (h2 : 0 ≤ m) (h3 : m ≤ 281474976710656) : Calls Tryd.prog 4 #[.int .i64 n, .int .i64 m] w fun e w' => e = .returned (.int .i64 (addI n m)) ∧ w' = w := by
  have f1 : IntKind.i64.wrap (2147483647 - n) = 2147483647 - n := by simp [IntKind.wrap, IntKind.bits, IntKind.signed]; omega
  have f2 : IntKind.i64.wrap (n + m) = n + m := by simp [IntKind.wrap, IntKind.bits, IntKind.signed]; omega
  by_cases h : 2147483647 - n < m
  · have e : addI n m = 2147483648 := by unfold addI; rw [if_pos h]
    rw [e]
    go_enter Tryd.func4, Tryd.ntmps4
    go_wp2
    go_ret
    exact ⟨rfl, rfl⟩
  · have e : addI n m = n + m := by unfold addI; rw [if_neg h]
    rw [e]
    go_enter Tryd.func4, Tryd.ntmps4
    go_wp2
    go_ret
    exact ⟨rfl, rfl⟩
theorem ErrV.grow {w w' : World} (h : ErrV w.heap.size w) (hb : Below w.heap.size w w') : ErrV w'.heap.size w' := by
  obtain ⟨g, tp, p, h1, h2, h3⟩ := h.below hb
  exact ⟨g, tp, p, h1, Nat.lt_of_lt_of_le h2 hb.size, h3⟩
/-- What Scan tells, in one shape. -/
theorem scan_shape (s : By) (w : World) (hev : ErrV w.heap.size w) :
    Calls Tryd.prog 6 #[.string ⟨s.toArray⟩] w fun e w' => (∃ tv g m, e = .returned (.tuple #[tv, .int .i64 g, .int .i64 m]) ∧ ((∃ L, scanQ s = .ok L) ∧ g = 0 ∧ m = 0 ∨ scanQ s = .error (g, m))) ∧ Below w.heap.size w w' := by
  refine (scan_any s w hev).mono ?_
  rintro e w' ⟨h, x⟩
  refine ⟨?_, x⟩
  unfold ScnQ at h
  cases hs : scanQ s with
  | error cn =>
    obtain ⟨c, n⟩ := cn
    rw [hs] at h
    exact ⟨_, _, _, h, .inr rfl⟩
  | ok L =>
    rw [hs] at h
    obtain ⟨tv, h, _⟩ := h
    exact ⟨_, _, _, h, .inl ⟨⟨L, rfl⟩, rfl, rfl⟩⟩
set_option maxHeartbeats 1000000 in
set_option maxRecDepth 100000 in
theorem lexFaults_any (s more : By) (w : World) (hs : s.length ≤ 140737488351232) (hm : more.length ≤ 140737488351232) (hev : ErrV w.heap.size w) :
    Calls Tryd.prog 3 #[.string ⟨s.toArray⟩, .string ⟨more.toArray⟩] w fun e w' => e = .returned (.bool true) ∧ Below w.heap.size w w' := by
  have hsz := bs_size s
  have hsm := bs_size more
  have hA1 : 0 ≤ addI s.length s.length ∧ addI s.length s.length ≤ 281474976710656 := by unfold addI; split <;> omega
  have HD1 := hide (fun W => add2_any s.length s.length W (by omega) (by omega) (by omega) (by omega))
  have HD2 := hide (fun W => add2_any (addI s.length s.length) more.length W hA1.1 hA1.2 (by omega) (by omega))
  have HBD : Hid (¬ 2147483647 < addI (addI s.length s.length) more.length → s.length + s.length + more.length ≤ 2147483647) := fun h => by
    unfold addI at h
    split at h
    · omega
    · split at h
      · omega
      · omega
  generalize addI s.length s.length = A1 at *
  generalize addI A1 more.length = A2 at *
  clear hA1
  have HAW := hide (awake_any w)
  by_cases hA : 2147483647 < A2
  · go_enter Tryd.func3, Tryd.ntmps3
    go_wp2_with (first | (go_at_call 4; refine (HD1.out _).mono ?_; clear HD1; rintro e wz ⟨rfl, hwz⟩; have hwz := hwz.symm; subst hwz) | (go_at_call 4; refine (HD2.out _).mono ?_; rintro e wz ⟨rfl, hwz⟩; have hwz := hwz.symm; subst hwz))
    go_ret
    exact ⟨rfl, Below.refl _ _⟩
  · have HLL := hide (HBD.out hA)
    go_enter Tryd.func3, Tryd.ntmps3
    go_upto_region 4 with (first | (go_at_call 4; refine (HD1.out _).mono ?_; clear HD1; rintro e wz ⟨rfl, hwz⟩; have hwz := hwz.symm; subst hwz) | (go_at_call 4; refine (HD2.out _).mono ?_; rintro e wz ⟨rfl, hwz⟩; have hwz := hwz.symm; subst hwz) | (go_at_call 5; refine HAW.out.mono ?_; rintro e w1 ⟨rfl, x1⟩; have X1 := hide x1; clear x1))
    have HEV1 := hide (hev.grow X1.out)
    have HS1 := hide (scan_shape s w1 HEV1.out)
    clear HAW HD2 HBD hev hA
    cases hsc : scanQ s with
    | ok L =>
      have HS : Hid (Calls Tryd.prog 6 #[.string ⟨s.toArray⟩] w1 fun e w' => (∃ tv, e = .returned (.tuple #[tv, .int .i64 0, .int .i64 0])) ∧ Below w1.heap.size w1 w') := by
        refine HS1.out.mono ?_
        rintro e w2 ⟨⟨tv, g, m, rfl, ⟨-, rfl, rfl⟩ | h2⟩, x2⟩
        · exact ⟨⟨tv, rfl⟩, x2⟩
        · rw [hsc] at h2
          cases h2
      clear HS1
      go_wp2_with (go_at_call 6; refine HS.out.mono ?_; rintro e w2 ⟨⟨tv, rfl⟩, x2⟩; have X2 := hide x2; clear x2)
      go_ret
      exact ⟨rfl, bt X1.out X2.out (Nat.le_refl _)⟩
    | error cn =>
      obtain ⟨c, n⟩ := cn
      have HS : Hid (Calls Tryd.prog 6 #[.string ⟨s.toArray⟩] w1 fun e w' => (∃ tv, e = .returned (.tuple #[tv, .int .i64 c, .int .i64 n])) ∧ Below w1.heap.size w1 w') := by
        refine HS1.out.mono ?_
        rintro e w2 ⟨⟨tv, g, m, rfl, ⟨⟨L, h2⟩, -, -⟩ | h2⟩, x2⟩
        · rw [hsc] at h2
          cases h2
        · rw [hsc] at h2
          obtain ⟨rfl, rfl⟩ := Prod.mk.inj (Except.error.inj h2)
          exact ⟨⟨tv, rfl⟩, x2⟩
      clear HS1
      by_cases hl : s.length ≤ 8000
      · obtain ⟨⟨hc0, hc84⟩, hn0, hn1, L, hL⟩ := scan_ahead hl hsc
        have hcb : (c == 0) = false := by simp [hc0]
        have hcb' : (c == 84) = false := by simp [hc84]
        obtain ⟨k, rfl⟩ := Int.eq_ofNat_of_zero_le hn0
        have hk : k < s.length := by omega
        have hn2 : ¬ (s.length : Int) ≤ (k : Int) := by omega
        have hn3 : ¬ (k : Int) < 0 := by omega
        have hn4 : (k : Int) ≤ (s.length : Int) := by omega
        rw [Int.toNat_natCast] at hL
        go_upto_region 11 with (go_at_call 6; refine HS.out.mono ?_; rintro e w2 ⟨⟨tv, rfl⟩, x2⟩; have X2 := hide x2; clear x2)
        have HEV2 := hide (HEV1.out.grow X2.out)
        have hcut : (⟨s.toArray⟩ : ByteArray).extract 0 k = ⟨(s.take k).toArray⟩ := by
          rw [ext_cut]
          unfold cutB
          rw [List.drop_zero]
        have HT : Hid (Calls Tryd.prog 6 #[.string ((⟨s.toArray⟩ : ByteArray).extract 0 k)] w2 fun e w' => (∃ tv, e = .returned (.tuple #[tv, .int .i64 0, .int .i64 0])) ∧ Below w2.heap.size w2 w') := by
          unfold Hid
          rw [hcut]
          refine (scan_shape (s.take k) w2 HEV2.out).mono ?_
          rintro e w3 ⟨⟨tv, g, m, rfl, ⟨-, rfl, rfl⟩ | h2⟩, x2⟩
          · exact ⟨⟨tv, rfl⟩, x2⟩
          · rw [hL] at h2
            cases h2
        clear hcut hL
        have f1 : IntKind.i64.wrap ((k : Int) + 1) = ((k + 1 : Nat) : Int) := by rw [show (k : Int) + 1 = ((k + 1 : Nat) : Int) by simp]; simp [IntKind.wrap, IntKind.bits, IntKind.signed]; omega
        go_wp2_with (go_at_call 6; refine HT.out.mono ?_; rintro e w3 ⟨⟨tv3, rfl⟩, x3⟩; have X3 := hide x3; clear x3)
        have HEV3 := hide (HEV2.out.grow X3.out)
        go_loopg [12] (s.length + 1) (fun g x wr => ∃ m : Nat, x = .int .i64 (m : Nat) ∧ k < m ∧ m ≤ s.length ∧ wr = w3 ∧ s.length - m < g)
        case atStart => exact ⟨k + 1, rfl, by omega, by omega, rfl, by omega⟩
        case round =>
          obtain ⟨m, rfl, hm1, hm2, hw, hg⟩ := hrel
          have hw := hw.symm
          subst hw
          have HG := hide hg
          clear hg
          have f2 : IntKind.i64.wrap ((m : Int) + 1) = (m : Int) + 1 := by rw [show (m : Int) + 1 = ((m + 1 : Nat) : Int) by simp]; simp [IntKind.wrap, IntKind.bits, IntKind.signed]; omega
          have hm3 : (m : Int) ≤ (s.length : Int) := by omega
          by_cases hgo : ∃ hm : m < s.length, s[m] ≠ 32 ∧ s[m] ≠ 10
          · obtain ⟨hlt, h32, h10⟩ := hgo
            have hlt' : (m : Int) < (s.length : Int) := by omega
            obtain ⟨b, hb⟩ : ∃ b : UInt8, s[m] = b := ⟨_, rfl⟩
            have hix : ∀ hk, (⟨s.toArray⟩ : ByteArray)[m]'hk = b := fun hk => (bs_get s m hk).trans hb
            rw [hb] at h32 h10
            have n32 : ¬ (b.toNat : Int) = 32 := fun e => h32 (UInt8.toNat_inj.1 (by show b.toNat = 32; omega))
            have n10 : ¬ (b.toNat : Int) = 10 := fun e => h10 (UInt8.toNat_inj.1 (by show b.toNat = 10; omega))
            have c32 : ((b.toNat : Int) != 32) = true := by simpa using n32
            have c10 : ((b.toNat : Int) != 10) = true := by simpa using n10
            clear h32 h10 hb
            go_wp2
            go_roundg (s.length - (m + 1) + 1)
            case measure => have := HG.out; omega
            case rel => exact ⟨m + 1, by first | rfl | go_num | (congr 1; omega), by omega, by omega, rfl, by omega⟩
          · have hstop : m = s.length ∨ ∃ hm : m < s.length, s[m] = 32 ∨ s[m] = 10 := by
              by_cases hlt : m < s.length
              · refine .inr ⟨hlt, ?_⟩
                by_cases h32 : s[m] = 32
                · exact .inl h32
                · by_cases h10 : s[m] = 10
                  · exact .inr h10
                  · exact absurd ⟨hlt, h32, h10⟩ hgo
              · exact .inl (by omega)
            have HST := hide hstop
            clear hgo
            have hcat : (⟨s.toArray⟩ : ByteArray).extract 0 m ++ ⟨#[32]⟩ ++ ⟨more.toArray⟩ = ⟨(s.take m ++ 32 :: more).toArray⟩ := by
              rw [ext_cut]
              unfold cutB
              rw [List.drop_zero]
              apply ByteArray.ext
              simp [ByteArray.data_append]
            have hlen : (s.take m ++ 32 :: more).length = m + 1 + more.length := by simp; omega
            obtain ⟨T, hT⟩ : ∃ T : ByteArray, T = (⟨s.toArray⟩ : ByteArray).extract 0 m ++ ⟨#[32]⟩ ++ ⟨more.toArray⟩ := ⟨_, rfl⟩
            have hTs : T.size = m + 1 + more.length := by rw [hT, hcat, bs_size, hlen]
            have HTS : Hid (Calls Tryd.prog 6 #[.string T] w3 fun e w' => (∃ tv g q, e = .returned (.tuple #[tv, .int .i64 g, .int .i64 q]) ∧ (c ≠ 83 → m + 1 + more.length ≤ 8000 → g = c ∧ q = k)) ∧ Below w3.heap.size w3 w') := by
              unfold Hid
              rw [hT, hcat]
              refine (scan_shape (s.take m ++ 32 :: more) w3 HEV3.out).mono ?_
              rintro e w4 ⟨⟨tv, g, q, rfl, h2⟩, x4⟩
              refine ⟨⟨tv, g, q, rfl, fun h83 h8 => ?_⟩, x4⟩
              have hb := scan_behind hl hsc h83 (m := m) (by omega) hm2 HST.out more (by rw [hlen]; exact h8)
              rcases h2 with ⟨⟨L, h2⟩, -, -⟩ | h2
              · rw [hb] at h2
                cases h2
              · rw [hb] at h2
                obtain ⟨rfl, rfl⟩ := Prod.mk.inj (Except.error.inj h2)
                exact ⟨rfl, rfl⟩
            have HTT := hide hT
            clear hcat hlen hT
            have key : (m : Int) < (s.length : Int) → (∀ hk, (⟨s.toArray⟩ : ByteArray)[m]'hk = 32) ∨ (∀ hk, (⟨s.toArray⟩ : ByteArray)[m]'hk = 10) := fun h => by
              rcases hstop with h1 | ⟨h1, h2 | h2⟩
              · omega
              · exact .inl fun hk => (bs_get s m hk).trans h2
              · exact .inr fun hk => (bs_get s m hk).trans h2
            clear hstop
            by_cases hlt : (m : Int) < (s.length : Int)
            · rcases key hlt with hix | hix
              · clear key
                go_upto_region 18 with fail
                rw [← HTT.out]
                go_wp2_with (go_at_call 6; refine HTS.out.mono ?_; rintro e w4 ⟨⟨tv4, g, q, rfl, hq⟩, x4⟩; have X4 := hide x4; have HQ := hide hq; clear x4 hq)
                all_goals
                  go_ret
                  refine ⟨?_, bt X1.out (bt X2.out (bt X3.out X4.out (Nat.le_refl _)) (Nat.le_refl _)) (Nat.le_refl _)⟩
                  by_cases h83 : c = 83
                  · first | contradiction | rfl | (simp; done)
                  · by_cases h8 : m + 1 + more.length ≤ 8000
                    · obtain ⟨hgc, hqk⟩ := HQ.out h83 h8
                      first | contradiction | (simp [hqk]; done) | omega
                    · have h8' : (8000 : Int) < (m : Int) + 1 + (more.length : Int) := by omega
                      first | contradiction | (simp [h8']; done) | omega
              · clear key
                go_upto_region 18 with fail
                rw [← HTT.out]
                go_wp2_with (go_at_call 6; refine HTS.out.mono ?_; rintro e w4 ⟨⟨tv4, g, q, rfl, hq⟩, x4⟩; have X4 := hide x4; have HQ := hide hq; clear x4 hq)
                all_goals
                  go_ret
                  refine ⟨?_, bt X1.out (bt X2.out (bt X3.out X4.out (Nat.le_refl _)) (Nat.le_refl _)) (Nat.le_refl _)⟩
                  by_cases h83 : c = 83
                  · first | contradiction | rfl | (simp; done)
                  · by_cases h8 : m + 1 + more.length ≤ 8000
                    · obtain ⟨hgc, hqk⟩ := HQ.out h83 h8
                      first | contradiction | (simp [hqk]; done) | omega
                    · have h8' : (8000 : Int) < (m : Int) + 1 + (more.length : Int) := by omega
                      first | contradiction | (simp [h8']; done) | omega
            · have hd : decide ((m : Int) < (s.length : Int)) = false := decide_eq_false hlt
              clear key
              go_upto_region 18 with fail
              rw [← HTT.out]
              go_wp2_with (go_at_call 6; refine HTS.out.mono ?_; rintro e w4 ⟨⟨tv4, g, q, rfl, hq⟩, x4⟩; have X4 := hide x4; have HQ := hide hq; clear x4 hq)
              all_goals
                go_ret
                refine ⟨?_, bt X1.out (bt X2.out (bt X3.out X4.out (Nat.le_refl _)) (Nat.le_refl _)) (Nat.le_refl _)⟩
                by_cases h83 : c = 83
                · first | contradiction | rfl | (simp; done)
                · by_cases h8 : m + 1 + more.length ≤ 8000
                  · obtain ⟨hgc, hqk⟩ := HQ.out h83 h8
                    first | contradiction | (simp [hqk]; done) | omega
                  · have h8' : (8000 : Int) < (m : Int) + 1 + (more.length : Int) := by omega
                    first | contradiction | (simp [h8']; done) | omega
      · have hcn : c = 84 ∧ n = 8000 := by
          unfold scanQ at hsc
          rw [if_pos (by omega)] at hsc
          obtain ⟨rfl, rfl⟩ := Prod.mk.inj (Except.error.inj hsc)
          exact ⟨rfl, rfl⟩
        obtain ⟨rfl, rfl⟩ := hcn
        have hl' : (8000 : Int) < (s.length : Int) := by omega
        clear hsc hl
        go_wp2_with (go_at_call 6; refine HS.out.mono ?_; rintro e w2 ⟨⟨tv, rfl⟩, x2⟩; have X2 := hide x2; clear x2)
        go_ret
        exact ⟨rfl, bt X1.out X2.out (Nat.le_refl _)⟩
end Go.Proofs.YtkpdbbbeagnjpaaDoor
