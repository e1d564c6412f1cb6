/-
  What a run of digits says: strconv's reading against the digits' value. Pure. No condition.
-/
import Derived.Test.YtkpdbbbeagnjpaaGreatDoorQ24
import Derived.Test.YtkpdbbbeagnjpaaGreatDoorQ30
import Derived.Test.YtkpdbbbeagnjpaaGreatDoorQ16
namespace Go.Proofs.YtkpdbbbeagnjpaaGreatDoor
open Go.RowKit Go.Lib

theorem dig_iff (c : UInt8) : isDig c ↔ 48 ≤ c.toNat ∧ c.toNat ≤ 57 := ⟨fun h => ⟨UInt8.le_iff_toNat_le.1 h.1, UInt8.le_iff_toNat_le.1 h.2⟩, fun h => ⟨UInt8.le_iff_toNat_le.2 h.1, UInt8.le_iff_toNat_le.2 h.2⟩⟩
theorem puM_val : ∀ (l : By) (acc : Nat), acc ≤ 4294967295 → (∀ c ∈ l, isDig c) → parseUintM 4294967295 acc l = if valL l acc ≤ 4294967295 then .ok (valL l acc) else .range
  | [], acc, ha, _ => by
    rw [parseUintM, valL, if_pos ha]
  | c :: r, acc, ha, h => by
    have hc := (dig_iff c).1 (h c List.mem_cons_self)
    have hg := valL_ge r (acc * 10 + (c.toNat - 48))
    rw [parseUintM, if_pos hc, if_neg (by omega), valL]
    by_cases hm : 4294967295 < acc * 10 + (c.toNat - 48)
    · rw [if_pos hm, if_neg (by omega)]
    · rw [if_neg hm]
      exact puM_val r _ (by omega) fun x hx => h x (List.mem_cons_of_mem _ hx)
theorem puB_val {l : By} (hl : l ≠ []) (h : ∀ c ∈ l, isDig c) : parseUintB 32 l = if valL l 0 ≤ 4294967295 then .ok (valL l 0) else .range := by
  unfold parseUintB
  rw [if_neg hl]
  exact puM_val l 0 (by decide) h
theorem puM_bad : ∀ (l : By) (acc u : Nat), parseUintM 4294967295 acc l = .ok u → ∀ c ∈ l, isDig c
  | [], _, _, _, _, hc => by cases hc
  | c :: r, acc, u, h, x, hx => by
    rw [parseUintM] at h
    split at h
    · rename_i hd
      split at h
      · cases h
      · split at h
        · cases h
        · rcases List.mem_cons.1 hx with rfl | hx
          · exact (dig_iff _).2 hd
          · exact puM_bad r _ u h x hx
    · cases h
/-- A number's text: digits alone, no zero ahead. -/
theorem numB_some {l : By} {u : Nat} (hl : l ≠ []) (h : numB l = some u) : (∀ c ∈ l, isDig c) ∧ valL l 0 = u ∧ u ≤ 4294967295 ∧ ¬ (l.head? = some 48 ∧ l ≠ [48]) := by
  unfold numB at h
  cases hp : parseUintB 32 l with
  | ok v =>
    rw [hp] at h
    simp only at h
    split at h
    · cases h
    · rename_i hz
      obtain rfl := Option.some.inj h
      have hd : ∀ c ∈ l, isDig c := by
        unfold parseUintB at hp
        rw [if_neg hl] at hp
        exact puM_bad l 0 v hp
      have := puB_val hl hd
      rw [hp] at this
      split at this
      · rename_i hv
        injection this with this
        exact ⟨hd, this.symm, by omega, hz⟩
      · cases this
  | «syntax» => rw [hp] at h; cases h
  | range => rw [hp] at h; cases h
theorem numB_of {l : By} (hl : l ≠ []) (hd : ∀ c ∈ l, isDig c) (hv : valL l 0 ≤ 4294967295) (hz : ¬ (l.head? = some 48 ∧ l ≠ [48])) : numB l = some (valL l 0) := by
  unfold numB
  rw [puB_val hl hd, if_pos hv]
  simp only
  rw [if_neg hz]
end Go.Proofs.YtkpdbbbeagnjpaaGreatDoor
/-
  The document's number by its contract. Condition: a text of one byte at least, no longer than a process can hold.
-/
namespace Go.Proofs.YtkpdbbbeagnjpaaGreatDoor
open Go.RowKit Go.Lib

theorem valN_pow : ∀ (l : By) (n : Nat), n * 10 ^ l.length ≤ valL l n
  | [], n => by simp [valL]
  | c :: t, n => by
    have h := valN_pow t (n * 10 + (c.toNat - 48))
    rw [valL, List.length_cons, Nat.pow_succ]
    refine Nat.le_trans ?_ h
    rw [Nat.add_mul, Nat.mul_comm (10 ^ t.length) 10, ← Nat.mul_assoc]
    exact Nat.le_add_right _ _
theorem valN_lt : ∀ (l : By) (n : Nat), (∀ c ∈ l, isDig c) → valL l n < (n + 1) * 10 ^ l.length
  | [], n, _ => by simp [valL]
  | c :: t, n, h => by
    have hc := (dig_iff c).1 (h c List.mem_cons_self)
    have h2 := valN_lt t (n * 10 + (c.toNat - 48)) fun x hx => h x (List.mem_cons_of_mem _ hx)
    rw [valL, List.length_cons, Nat.pow_succ]
    refine Nat.lt_of_lt_of_le h2 ?_
    rw [Nat.mul_comm (10 ^ t.length) 10, ← Nat.mul_assoc]
    exact Nat.mul_le_mul_right _ (by omega)
/-- What number tells. -/
def NmD (s : By) (e : Ending) : Prop := ∃ x : Int, e = .returned (.tuple #[.int .i64 x, .bool (numB s).isSome]) ∧ ∀ u, numB s = some u → x = u
theorem NmD.no {s : By} (x : Int) (h : numB s = none) : NmD s (.returned (.tuple #[.int .i64 x, .bool false])) := ⟨x, by rw [h]; rfl, fun u hu => by rw [h] at hu; cases hu⟩
theorem num_bad {s : By} (hs : s ≠ []) {i : Nat} (hi : i < s.length) (h : ¬ isDig s[i]) : numB s = none := by
  cases hn : numB s with
  | none => rfl
  | some u => exact absurd ((numB_some hs hn).1 _ (List.getElem_mem hi)) h
theorem num_long {s : By} (h : 10 < s.length) : numB s = none := by
  have hs : s ≠ [] := by intro e; rw [e] at h; simp at h
  cases hn : numB s with
  | none => rfl
  | some u =>
    obtain ⟨h1, h2, h3, h4⟩ := numB_some hs hn
    obtain ⟨c, t, rfl⟩ := List.exists_cons_of_ne_nil hs
    have hc := (dig_iff c).1 (h1 c List.mem_cons_self)
    have hc48 : c ≠ 48 := fun e => h4 ⟨by rw [e]; rfl, fun e' => by rw [e'] at h; simp at h⟩
    have hc2 : c.toNat ≠ 48 := fun e => hc48 (UInt8.toNat_inj.1 e)
    have hp := valN_pow t (0 * 10 + (c.toNat - 48))
    rw [List.length_cons] at h
    have hq : 10 ^ 10 ≤ 10 ^ t.length := Nat.pow_le_pow_right (by decide) (by omega)
    have hr : 1 * 10 ^ t.length ≤ (0 * 10 + (c.toNat - 48)) * 10 ^ t.length := Nat.mul_le_mul_right _ (by omega)
    rw [valL] at h2
    omega
set_option maxHeartbeats 1000000 in
set_option maxRecDepth 100000 in
theorem number_any (s : By) (hs : s ≠ []) (hl : s.length ≤ 140737488351232) (w : World) : Calls Tryz.prog 57 #[.string ⟨s.toArray⟩] w fun e w' => NmD s e ∧ w' = w := by
  have hsz := bs_size s
  have hpos : 0 < s.length := List.length_pos_iff.2 hs
  go_enter Tryz.func57, Tryz.ntmps57
  go_wp2
  go_loopg [4, 5] 12 (fun g x y wr => ∃ i : Nat, x = .int .i64 (valL (s.take i) 0 : Nat) ∧ y = .int .i64 (i : Nat) ∧ i ≤ s.length ∧ i ≤ 10 ∧ Hid (∀ c ∈ s.take i, isDig c) ∧ wr = w ∧ 11 - i < g)
  case atStart => exact ⟨0, rfl, rfl, by omega, by omega, fun c hc => by simp at hc, rfl, by omega⟩
  case round =>
    obtain ⟨i, rfl, rfl, hi1, hi2, HD, hw, hg⟩ := hrel
    have hw := hw.symm
    subst hw
    have HG := hide hg
    clear hg
    have hlt := valN_lt (s.take i) 0 HD.out
    have hle : (0 + 1) * 10 ^ (s.take i).length ≤ 10 ^ 10 := by rw [Nat.zero_add, Nat.one_mul]; exact Nat.pow_le_pow_right (by decide) (by simp; omega)
    have hv : valL (s.take i) 0 < 10000000000 := by omega
    clear hlt hle
    by_cases hi : i < s.length
    · have hi' : (i : Int) < (s.length : Int) := by omega
      obtain ⟨b, hb⟩ : ∃ b : UInt8, s[i] = b := ⟨_, rfl⟩
      have hix : ∀ hk, (⟨s.toArray⟩ : ByteArray)[i]'hk = b := fun hk => (bs_get s i hk).trans hb
      have H1 := hide (fun W => digitD_any (b.toNat : Int) W)
      have hdg : dgB (b.toNat : Int) = decide (isDig b) := by
        unfold dgB
        rw [← Bool.decide_and]
        congr 1
        rw [eq_iff_iff, dig_iff]
        omega
      rw [hdg] at H1
      clear hdg
      by_cases hd : isDig b
      · rw [decide_eq_true hd] at H1
        by_cases h9 : i = 10
        · subst h9
          have HN := hide (num_long hi)
          clear hi'
          go_wp2_with (go_at_call 39; refine (H1.out _).mono ?_; rintro e wz ⟨rfl, hwz⟩; have hwz := hwz.symm; subst hwz)
          refine bodyPost_ret (by simp [results, Tryz.results57, go_sem]; rfl) rfl ?_
          exact ⟨NmD.no 0 HN.out, rfl⟩
        · have h9' : ¬ (9 : Int) < (i : Int) := by omega
          have hdd := (dig_iff b).1 hd
          have f0 : IntKind.u8.wrap ((b.toNat : Int) - 48) = ((b.toNat - 48 : Nat) : Int) := by simp [IntKind.wrap, IntKind.bits, IntKind.signed]; omega
          have HV : Hid (valL (s.take (i + 1)) 0 = 10 * valL (s.take i) 0 + (b.toNat - 48)) := by
            unfold Hid
            rw [List.take_add_one, List.getElem?_eq_getElem hi, hb]
            show valL (s.take i ++ [b]) 0 = _
            rw [valL_append, Nat.mul_comm]
          have HD2 : Hid (∀ c ∈ s.take (i + 1), isDig c) := fun c hc => by
            rw [List.take_add_one, List.getElem?_eq_getElem hi, hb] at hc
            rcases List.mem_append.1 hc with hc | hc
            · exact HD.out c hc
            · have : c = b := by simpa using hc
              rw [this]
              exact hd
          generalize valL (s.take i) 0 = v at *
          have hd9 : b.toNat - 48 ≤ 9 := by omega
          generalize b.toNat - 48 = dv at *
          have f1 : IntKind.i64.wrap (10 * (v : Int)) = 10 * (v : Int) := by simp [IntKind.wrap, IntKind.bits, IntKind.signed]; omega
          have f2 : IntKind.i64.wrap (10 * (v : Int) + (dv : Int)) = 10 * (v : Int) + (dv : Int) := by simp [IntKind.wrap, IntKind.bits, IntKind.signed]; omega
          have f3 : IntKind.i64.wrap ((i : Int) + 1) = (i : Int) + 1 := by simp [IntKind.wrap, IntKind.bits, IntKind.signed]; omega
          have f4 : IntKind.i64.wrap (dv : Int) = (dv : Int) := by simp [IntKind.wrap, IntKind.bits, IntKind.signed]; omega
          clear hd hdd
          go_wp2_with (go_at_call 39; refine (H1.out _).mono ?_; rintro e wz ⟨rfl, hwz⟩; have hwz := hwz.symm; subst hwz)
          go_roundg (11 - (i + 1) + 1)
          case measure => have := HG.out; omega
          case rel => exact ⟨i + 1, by rw [HV.out]; simp, by simp, by omega, by omega, HD2, rfl, by omega⟩
      · rw [decide_eq_false hd] at H1
        have HN := hide (num_bad hs hi (by rw [hb]; exact hd))
        clear hd
        go_wp2_with (go_at_call 39; refine (H1.out _).mono ?_; rintro e wz ⟨rfl, hwz⟩; have hwz := hwz.symm; subst hwz)
        refine bodyPost_ret (by simp [results, Tryz.results57, go_sem]; rfl) rfl ?_
        exact ⟨NmD.no 0 HN.out, rfl⟩
    · obtain rfl : i = s.length := by omega
      rw [List.take_length] at HD hv ⊢
      obtain ⟨c, t, rfl⟩ := List.exists_cons_of_ne_nil hs
      have hix : ∀ hk, (⟨(c :: t).toArray⟩ : ByteArray)[0]'hk = c := fun _ => rfl
      obtain ⟨S, hS⟩ : ∃ S : ByteArray, Hid (S = ⟨(c :: t).toArray⟩) := ⟨_, rfl⟩
      have hpz : (0 : Int) < ((c :: t).length : Int) := by omega
      obtain ⟨n, hn⟩ : ∃ n : Nat, (c :: t).length = n := ⟨_, rfl⟩
      have key : ∀ b, (numB (c :: t)).isSome = b → Hid (NmD (c :: t) (.returned (.tuple #[.int .i64 (valL (c :: t) 0 : Nat), .bool b]))) := fun b e => ⟨_, by rw [e], fun u hu => by rw [(numB_some hs hu).2.1]⟩
      have hno : ¬ valL (c :: t) 0 ≤ 4294967295 → (numB (c :: t)).isSome = false := fun h => by
        cases hn : numB (c :: t) with
        | none => rfl
        | some u =>
          obtain ⟨_, h2, h3, _⟩ := numB_some hs hn
          omega
      have hno2 : c = 48 → n ≠ 1 → (numB (c :: t)).isSome = false := fun h hn1 => by
        cases hn' : numB (c :: t) with
        | none => rfl
        | some u =>
          obtain ⟨_, _, _, h4⟩ := numB_some hs hn'
          exact absurd ⟨by rw [h]; rfl, fun e => hn1 (by rw [← hn, e]; rfl)⟩ h4
      have hyes : valL (c :: t) 0 ≤ 4294967295 → (c ≠ 48 ∨ n = 1) → (numB (c :: t)).isSome = true := fun h h2 => by
        rw [numB_of hs HD.out h (fun ⟨h3, h4⟩ => by
          rcases h2 with h2 | h2
          · exact h2 (by simpa using h3)
          · rw [List.length_cons] at hn
            have : t = [] := List.length_eq_zero_iff.1 (by omega)
            subst this
            have : c = 48 := by simpa using h3
            exact h4 (by rw [this]))]
        rfl
      clear HD
      rw [hn] at hpz hi hi1 hi2 hsz ⊢
      rw [← hS.out] at hix hsz ⊢
      generalize hV : valL (c :: t) 0 = v at *
      have KK := hide key
      have HNO := hide hno
      have HNO2 := hide hno2
      have HYE := hide hyes
      clear key hno hno2 hyes hs hpos
      by_cases hvm : v ≤ 4294967295
      · have hvm' : (v : Int) ≤ 4294967295 := by omega
        by_cases hc : c = 48
        · by_cases h1 : n = 1
          · have HR := hide (KK.out true (HYE.out hvm (.inr h1)))
            have hc' : (c.toNat : Int) = 48 := by rw [hc]; rfl
            have hc2 : ((c.toNat : Int) != 48) = false := by rw [hc']; rfl
            have h1' : (n : Int) = 1 := by omega
            have h2' : ((n : Int) == 1) = true := by simpa using h1'
            clear h1 hc
            go_wp2
            refine bodyPost_ret (by simp [results, Tryz.results57, go_sem]; rfl) rfl ?_
            exact ⟨HR.out, rfl⟩
          · have HR := hide (KK.out false (HNO2.out hc h1))
            have hc' : (c.toNat : Int) = 48 := by rw [hc]; rfl
            have h1' : ¬ (n : Int) = 1 := by omega
            have h2' : ((n : Int) == 1) = false := by simpa using h1'
            clear hc
            go_wp2
            refine bodyPost_ret (by simp [results, Tryz.results57, go_sem]; rfl) rfl ?_
            exact ⟨HR.out, rfl⟩
        · have HR := hide (KK.out true (HYE.out hvm (.inl hc)))
          have hc' : ¬ (c.toNat : Int) = 48 := fun e => hc (UInt8.toNat_inj.1 (by show c.toNat = 48; omega))
          have hc2 : ((c.toNat : Int) != 48) = true := by simpa using hc'
          go_wp2
          refine bodyPost_ret (by simp [results, Tryz.results57, go_sem]; rfl) rfl ?_
          exact ⟨HR.out, rfl⟩
      · have HR := hide (KK.out false (HNO.out hvm))
        have hvm' : ¬ (v : Int) ≤ 4294967295 := by omega
        have hvd : decide ((v : Int) ≤ 4294967295) = false := decide_eq_false hvm'
        go_wp2
        refine bodyPost_ret (by simp [results, Tryz.results57, go_sem]; rfl) rfl ?_
        exact ⟨HR.out, rfl⟩
end Go.Proofs.YtkpdbbbeagnjpaaGreatDoor
/-
  The document's digits and Size by their contracts. No condition.
-/
namespace Go.Proofs.YtkpdbbbeagnjpaaGreatDoor
open Go.RowKit Go.Lib

theorem dec_len (u : Nat) : (decDigits u).length ≤ u + 1 := by
  induction u using Nat.strongRecOn with
  | ind u ih =>
    by_cases h : u < 10
    · rw [decDigits_one h]; simp
    · rw [dec_step u h]
      have := ih (u / 10) (by omega)
      simp
      omega
theorem size_any (k : Nat) (hk : k ≤ 32) (w : World) : Calls Tryz.prog 82 #[.int .i64 k] w fun e w' => e = .returned (.int .i64 (2 ^ (32 - k) : Nat)) ∧ w' = w := by
  rcases k with _ | _ | _ | _ | _ | _ | _ | _ | _ | _ | _ | _ | _ | _ | _ | _ | _ | _ | _ | _ | _ | _ | _ | _ | _ | _ | _ | _ | _ | _ | _ | _ | _ | k
  all_goals first | (exfalso; omega) | skip
  all_goals
    clear hk
    try simp only [Nat.zero_add, Nat.reduceAdd]
    go_enter Tryz.func82, Tryz.ntmps82
    go_wp2
    go_ret
    exact ⟨rfl, rfl⟩
end Go.Proofs.YtkpdbbbeagnjpaaGreatDoor
