/-
  What is printed is read as it was, what is read is printed as it was: lists of bytes alone. No condition.
-/
import Derived.Test.YtfjifedfenpbbaaDoorPrint
import Derived.Test.YtfjifedfenpbbaaDoorPp
namespace Go.Proofs.YtfjifedfenpbbaaDoor
open Go.Lib

theorem dec_no (n : Nat) (c : UInt8) (hc : c < 48) : c ∉ decDigits n := fun h => by
  have := (dec_spec n).1 c h
  unfold isDig at this
  exact absurd hc (UInt8.not_lt.2 this.1)
theorem addrL_dots (a b c d : Nat) (ha : a < 256) (hb : b < 256) (hc : c < 256) (hd : d < 256) : addrL (dots a b c d) = some (W4 a b c d) := by
  have h1 := cutL_of (c := 46) (decDigits b ++ 46 :: (decDigits c ++ 46 :: decDigits d)) (dec_no a 46 (by decide))
  have h2 := cutL_of (c := 46) (decDigits c ++ 46 :: decDigits d) (dec_no b 46 (by decide))
  have h3 := cutL_of (c := 46) (decDigits d) (dec_no c 46 (by decide))
  rw [addrL_three (l := dots a b c d) h1 h2 h3, rn_dec a 255 (by omega), rn_dec b 255 (by omega), rn_dec c 255 (by omega), rn_dec d 255 (by omega)]
  rfl
theorem dots_no (a b c d : Nat) : (47 : UInt8) ∉ dots a b c d := by
  have := dec_no a 47 (by decide)
  have := dec_no b 47 (by decide)
  have := dec_no c 47 (by decide)
  have := dec_no d 47 (by decide)
  simp [dots, *]
theorem txt_no (n : Nat) : (47 : UInt8) ∉ txt n := dots_no _ _ _ _
theorem addrL_txt (n : Nat) (h : n < 4294967296) : addrL (txt n) = some n := by
  unfold txt
  rw [addrL_dots _ _ _ _ (by omega) (by omega) (by omega) (by omega), W4_of n h]
theorem pfxL_txt (n : Nat) (h : n < 4294967296) : pfxL (txt n) = some (n, 32) := by
  unfold pfxL
  rw [cutL_none.2 (txt_no n), addrL_txt n h]
  rfl
theorem pfxL_pre (n k : Nat) (h : n < 4294967296) (hk : k ≤ 32) (hm : n % 2 ^ (32 - k) = 0) : pfxL (txt n ++ 47 :: decDigits k) = some (n, k) := by
  unfold pfxL
  rw [cutL_of (c := 47) (decDigits k) (txt_no n)]
  simp only [addrL_txt n h, rn_dec k 32 hk, Option.bind_some, if_pos hm]
theorem addrL_some {l : List UInt8} {m : Nat} (h : addrL l = some m) : m < 4294967296 ∧ txt m = l := by
  unfold addrL at h
  cases e1 : cutL 46 l with
  | none => rw [e1] at h; cases h
  | some x1 =>
    obtain ⟨p1, l1⟩ := x1
    rw [e1, Option.bind_some] at h
    cases e2 : cutL 46 l1 with
    | none => simp only [e2] at h; cases h
    | some x2 =>
      obtain ⟨p2, l2⟩ := x2
      simp only [e2, Option.bind_some] at h
      cases e3 : cutL 46 l2 with
      | none => simp only [e3] at h; cases h
      | some x3 =>
        obtain ⟨p3, l3⟩ := x3
        simp only [e3, Option.bind_some] at h
        cases r1 : rn p1 255 with
        | none => simp only [r1] at h; cases h
        | some a =>
          cases r2 : rn p2 255 with
          | none => simp only [r1, r2, Option.bind_some] at h; cases h
          | some b =>
            cases r3 : rn p3 255 with
            | none => simp only [r1, r2, r3, Option.bind_some] at h; cases h
            | some c =>
              cases r4 : rn l3 255 with
              | none => simp only [r1, r2, r3, r4, Option.bind_some] at h; cases h
              | some d =>
                simp only [r1, r2, r3, r4, Option.bind_some, Option.some.injEq] at h
                have s1 := rn_some r1
                have s2 := rn_some r2
                have s3 := rn_some r3
                have s4 := rn_some r4
                subst h
                refine ⟨W4_lt a b c d (by omega) (by omega) (by omega) (by omega), ?_⟩
                have g : W4 a b c d / 16777216 % 256 = a ∧ W4 a b c d / 65536 % 256 = b ∧ W4 a b c d / 256 % 256 = c ∧ W4 a b c d % 256 = d := by unfold W4; omega
                unfold txt dots
                rw [g.1, g.2.1, g.2.2.1, g.2.2.2, ← s1.1, ← s2.1, ← s3.1, ← s4.1, (cutL_some e1).1, (cutL_some e2).1, (cutL_some e3).1]
theorem pfxL_some {l : List UInt8} {n k : Nat} (h : pfxL l = some (n, k)) : n < 4294967296 ∧ k ≤ 32 ∧ n % 2 ^ (32 - k) = 0 ∧ (txt n ++ 47 :: decDigits k = l ∨ txt n ++ 47 :: decDigits k = l ++ [47, 51, 50]) := by
  unfold pfxL at h
  cases ec : cutL 47 l with
  | none =>
    simp only [ec] at h
    cases ea : addrL l with
    | none => rw [ea] at h; cases h
    | some m =>
      rw [ea] at h
      simp only [Option.map_some, Option.some.injEq, Prod.mk.injEq] at h
      obtain ⟨rfl, rfl⟩ := h
      obtain ⟨h1, h2⟩ := addrL_some ea
      refine ⟨h1, by omega, by simp [Nat.mod_one], .inr ?_⟩
      rw [h2, show decDigits 32 = [51, 50] by decide +kernel]
  | some x =>
    obtain ⟨p, r⟩ := x
    simp only [ec] at h
    cases ea : addrL p with
    | none => simp only [ea] at h; cases h
    | some m =>
      cases er : rn r 32 with
      | none => simp only [ea, er, Option.bind_some] at h; cases h
      | some b =>
        simp only [ea, er, Option.bind_some] at h
        split at h
        · rename_i hm
          simp only [Option.some.injEq, Prod.mk.injEq] at h
          obtain ⟨rfl, rfl⟩ := h
          obtain ⟨h1, h2⟩ := addrL_some ea
          obtain ⟨h3, h4⟩ := rn_some er
          exact ⟨h1, h4, hm, .inl (by rw [h2, ← h3, ← (cutL_some ec).1])⟩
        · cases h

theorem prt_ok {n : Int} (h : prtE n = 0) : ∃ m : Nat, n = m ∧ m < 4294967296 ∧ prtS n = txt m := by
  unfold prtE at h
  split at h
  · rename_i hh
    exact ⟨n.toNat, by omega, by omega, by simp only [prtS, if_pos hh]⟩
  · cases h
theorem prt_back {n : Int} (h : prtE n = 0) : parN (prtS n) = n ∧ parE (prtS n) = 0 ∧ pfxA (prtS n) = n ∧ pfxB (prtS n) = 32 ∧ pfxE (prtS n) = 0 ∧ rngL n 32 = n ∧ rngH n 32 = n ∧ pprE n 32 = 0 := by
  obtain ⟨m, rfl, hm, e⟩ := prt_ok h
  have hp : Pfx (m : Int) 32 := ⟨by omega, by omega, by omega, by omega, by simp [Nat.mod_one]⟩
  rw [e]
  refine ⟨by simp [parN, addrL_txt m hm], by simp [parE, addrL_txt m hm], by simp [pfxA, pfxL_txt m hm], by simp [pfxB, pfxL_txt m hm], by simp [pfxE, pfxL_txt m hm], if_pos hp, ?_, if_pos hp⟩
  rw [rngH, if_pos hp]
  simp
theorem ppr_back {a k : Int} (h : pprE a k = 0) : pfxA (pprS a k) = a ∧ pfxB (pprS a k) = k ∧ pfxE (pprS a k) = 0 := by
  unfold pprE at h
  split at h
  · rename_i hp
    obtain ⟨n, b, rfl, rfl, hb, hn, hm⟩ := hp.nat
    have e : pprS (n : Int) (b : Int) = txt n ++ 47 :: decDigits b := if_pos hp
    rw [e]
    refine ⟨by simp [pfxA, pfxL_pre n b hn hb hm], by simp [pfxB, pfxL_pre n b hn hb hm], by simp [pfxE, pfxL_pre n b hn hb hm]⟩
  · cases h
theorem ppr_len {a k : Int} (h : pprE a k = 0) : (pprS a k).length ≤ 140737488351232 := by
  unfold pprE at h
  split at h
  · rename_i hp
    obtain ⟨n, b, rfl, rfl, hb, hn, hm⟩ := hp.nat
    have e : pprS (n : Int) (b : Int) = txt n ++ 47 :: decDigits b := if_pos hp
    have h1 := dots_length (n / 16777216 % 256) (n / 65536 % 256) (n / 256 % 256) (n % 256) (by omega) (by omega) (by omega) (by omega)
    have h2 : ∀ k, k ≤ 32 → (decDigits k).length ≤ 2 := by decide +kernel
    have h3 := h2 b hb
    rw [e]
    simp only [List.length_append, List.length_cons, txt]
    omega
  · cases h
theorem par_back {l : List UInt8} (h : parE l = 0) : prtS (parN l) = l ∧ prtE (parN l) = 0 := by
  cases e : addrL l with
  | none => simp [parE, e] at h
  | some m =>
    obtain ⟨h1, h2⟩ := addrL_some e
    have e2 : parN l = m := by simp [parN, e]
    rw [e2]
    have hb : 0 ≤ (m : Int) ∧ (m : Int) ≤ 4294967295 := by omega
    exact ⟨by simp only [prtS, if_pos hb]; exact h2, if_pos hb⟩
theorem pfx_back {l : List UInt8} (h : pfxE l = 0) : pprE (pfxA l) (pfxB l) = 0 ∧ (pprS (pfxA l) (pfxB l) = l ∨ pprS (pfxA l) (pfxB l) = l ++ [47, 51, 50]) := by
  cases e : pfxL l with
  | none => simp [pfxE, e] at h
  | some x =>
    obtain ⟨n, k⟩ := x
    obtain ⟨h1, h2, h3, h4⟩ := pfxL_some e
    have e1 : pfxA l = n := by simp [pfxA, e]
    have e2 : pfxB l = k := by simp [pfxB, e]
    have hp : Pfx (n : Int) (k : Int) := ⟨by omega, by omega, by omega, by omega, by simpa using h3⟩
    rw [e1, e2]
    refine ⟨if_pos hp, ?_⟩
    rw [show pprS (n : Int) (k : Int) = txt n ++ 47 :: decDigits k from if_pos hp]
    exact h4
end Go.Proofs.YtfjifedfenpbbaaDoor
