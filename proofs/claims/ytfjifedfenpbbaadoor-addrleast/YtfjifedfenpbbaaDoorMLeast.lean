/-
  The prefixes of a set: they rise, no two are the halves of one, their addresses are the set's; a prefix's own set has that one. No condition.
-/
import Derived.Test.YtfjifedfenpbbaaDoorCov
import Derived.Test.YtfjifedfenpbbaaDoorPrint
namespace Go.Proofs.YtfjifedfenpbbaaDoor

/-- How many addresses. -/
def pw (k : Int) : Int := 2 ^ (32 - k.toNat)
theorem pw_pos (k : Int) : 0 < pw k := Int.pow_pos (by decide)
theorem pw_nat (b : Nat) : pw (b : Int) = ((2 ^ (32 - b) : Nat) : Int) := by simp [pw]
theorem pw_half (k : Int) (h0 : 0 < k) (h1 : k ≤ 32) : pw (k - 1) = 2 * pw k := by
  unfold pw
  rw [show 32 - (k - 1).toNat = (32 - k.toNat) + 1 by omega, Int.pow_succ]
  omega
/-- A prefix's addresses. -/
def rngP (s : Spn) : Spn := (s.1, s.1 + pw s.2 - 1)
/-- q lies behind p, and they are not the halves of one. -/
def Aft (p q : Spn) : Prop := p.1 + pw p.2 ≤ q.1 ∧ ¬ (0 < q.2 ∧ p.2 = q.2 ∧ Pfx p.1 (q.2 - 1) ∧ p.1 + pw (q.2 - 1) = q.1 + pw q.2)

theorem wid_pos {n hi b k : Nat} (h : wid n hi b = k) (h0 : 0 < k) : ¬ fits n hi (k - 1) := by
  obtain ⟨j, rfl⟩ : ∃ j, k = j + 1 := ⟨k - 1, by omega⟩
  exact wid_stop h
theorem cov_props : ∀ (m lo hi : Nat), hi + 1 - lo ≤ m → hi < 4294967296 →
    (∀ p ∈ cov lo hi, Pfx p.1 p.2 ∧ (lo : Int) ≤ p.1 ∧ p.1 + pw p.2 ≤ (hi : Int) + 1) ∧ (cov lo hi).Pairwise Aft ∧ ∀ n : Int, memB n ((cov lo hi).map rngP) = (decide ((lo : Int) ≤ n) && decide (n ≤ (hi : Int)))
  | m, lo, hi, hm, hhi => by
    by_cases h : lo ≤ hi
    · have hf := wd_fits h
      have hw := wd_le lo hi
      have hst := cov_step h
      have hpos : 0 < 2 ^ (32 - wd lo hi) := Nat.pow_pos (by decide)
      have hfit : lo + 2 ^ (32 - wd lo hi) - 1 ≤ hi := hf.2
      match m, hm with
      | 0, hm => omega
      | m + 1, hm =>
        obtain ⟨i1, i2, i3⟩ := cov_props m (lo + 2 ^ (32 - wd lo hi)) hi (by omega) hhi
        have hp : Pfx (lo : Int) (wd lo hi : Int) := ⟨by omega, by omega, by omega, by omega, hf.1⟩
        have hpw := pw_nat (wd lo hi)
        rw [hst]
        refine ⟨?_, ?_, ?_⟩
        · intro p hm
          rcases List.mem_cons.1 hm with rfl | hm
          · refine ⟨hp, Int.le_refl _, ?_⟩
            show (lo : Int) + pw (wd lo hi : Int) ≤ _
            rw [hpw]
            omega
          · obtain ⟨a, b, c⟩ := i1 p hm
            exact ⟨a, by omega, c⟩
        · refine List.pairwise_cons.2 ⟨fun q hq => ?_, i2⟩
          obtain ⟨a, b, c⟩ := i1 q hq
          refine ⟨?_, ?_⟩
          · show (lo : Int) + pw (wd lo hi : Int) ≤ q.1
            rw [hpw]
            omega
          · rintro ⟨h1, h2, h3, h4⟩
            have h2' : (wd lo hi : Int) = q.2 := h2
            have h3' : Pfx (lo : Int) (q.2 - 1) := h3
            have h4' : (lo : Int) + pw (q.2 - 1) = q.1 + pw q.2 := h4
            rw [← h2'] at h1 h3' h4' c
            have hk : 0 < wd lo hi := by omega
            have hno := wid_pos (b := 32) (k := wd lo hi) rfl hk
            apply hno
            have e : ((wd lo hi : Int) - 1) = ((wd lo hi - 1 : Nat) : Int) := by omega
            rw [e] at h3' h4'
            refine ⟨h3'.2.2.2.2, ?_⟩
            rw [pw_nat] at h4'
            omega
        · intro n
          rw [List.map_cons, memB_cons, i3]
          show (decide ((lo : Int) ≤ n) && decide (n ≤ (lo : Int) + pw (wd lo hi : Int) - 1) || _) = _
          rw [hpw]
          rw [Bool.eq_iff_iff]
          simp only [Bool.or_eq_true, Bool.and_eq_true, decide_eq_true_eq]
          omega
    · rw [cov_done (by omega)]
      refine ⟨by simp, List.Pairwise.nil, fun n => ?_⟩
      rw [List.map_nil, memB_nil]
      symm
      rw [Bool.eq_false_iff]
      simp only [ne_eq, Bool.and_eq_true, decide_eq_true_eq]
      omega
theorem covS_props (s : Spn) (h : Bnd s) :
    (∀ p ∈ covS s, Pfx p.1 p.2 ∧ s.1 ≤ p.1 ∧ p.1 + pw p.2 ≤ s.2 + 1) ∧ (covS s).Pairwise Aft ∧ ∀ n : Int, memB n ((covS s).map rngP) = (decide (s.1 ≤ n) && decide (n ≤ s.2)) := by
  unfold Bnd at h
  have := cov_props _ s.1.toNat s.2.toNat (Nat.le_refl _) (by omega)
  rw [show ((s.1.toNat : Nat) : Int) = s.1 by omega, show ((s.2.toNat : Nat) : Int) = s.2 by omega] at this
  exact this
theorem covL_props : ∀ (A : List Spn), IsSet A → (∀ p ∈ covL A, Pfx p.1 p.2 ∧ ∃ s ∈ A, s.1 ≤ p.1 ∧ p.1 + pw p.2 ≤ s.2 + 1) ∧ (covL A).Pairwise Aft ∧ ∀ n : Int, memB n ((covL A).map rngP) = memB n A
  | [], _ => ⟨by simp [covL], List.Pairwise.nil, fun _ => rfl⟩
  | s :: A, h => by
    obtain ⟨i1, i2, i3⟩ := covL_props A h.tail
    obtain ⟨j1, j2, j3⟩ := covS_props s h.head
    have e : covL (s :: A) = covS s ++ covL A := by simp [covL]
    rw [e]
    refine ⟨?_, ?_, ?_⟩
    · intro p hp
      rcases List.mem_append.1 hp with hp | hp
      · obtain ⟨a, b, c⟩ := j1 p hp
        exact ⟨a, s, by simp, b, c⟩
      · obtain ⟨a, t, ht, b, c⟩ := i1 p hp
        exact ⟨a, t, by simp [ht], b, c⟩
    · refine List.pairwise_append.2 ⟨j2, i2, fun p hp q hq => ?_⟩
      obtain ⟨a, b, c⟩ := j1 p hp
      obtain ⟨a', t, ht, b', c'⟩ := i1 q hq
      have hst : s.2 + 2 ≤ t.1 := (List.pairwise_cons.1 h.2).1 t ht
      refine ⟨by omega, ?_⟩
      rintro ⟨h1, h2, h3, h4⟩
      rw [pw_half q.2 h1 a'.2.1, ← h2] at h4
      omega
    · intro n
      rw [List.map_append, memB_append, j3, i3, memB_cons]
theorem rngP_bnd {p : Spn} (h : Pfx p.1 p.2) : Bnd (rngP p) := by
  obtain ⟨n, b, e1, e2, hb, hn, hm⟩ := h.nat
  have hpos : 0 < 2 ^ (32 - b) := Nat.pow_pos (by decide)
  unfold Bnd rngP
  rw [e1, e2, pw_nat]
  refine ⟨by simp, by simp only []; omega, ?_⟩
  simp only []
  have hd : 2 ^ (32 - b) ∣ 4294967296 := by
    rw [show (4294967296 : Nat) = 2 ^ 32 by decide]
    exact Nat.pow_dvd_pow 2 (by omega)
  obtain ⟨c, hc⟩ := hd
  obtain ⟨d, hd⟩ := Nat.dvd_of_mod_eq_zero hm
  generalize 2 ^ (32 - b) = S at *
  have : d < c := by
    rcases Nat.lt_or_ge d c with h | h
    · exact h
    · have := Nat.mul_le_mul_left S h
      omega
  have h2 : S * (d + 1) ≤ S * c := Nat.mul_le_mul_left S (by omega)
  rw [Nat.mul_add, Nat.mul_one] at h2
  omega

theorem wid_eq {n hi k : Nat} (hf : ∀ j, k ≤ j → fits n hi j) (hno : 0 < k → ¬ fits n hi (k - 1)) : ∀ b, k ≤ b → wid n hi b = k
  | 0, h => by
    have : k = 0 := by omega
    subst this
    simp [wid]
  | b + 1, h => by
    by_cases hb : k ≤ b
    · simp only [wid]
      rw [if_pos (hf b hb)]
      exact wid_eq hf hno b hb
    · have : k = b + 1 := by omega
      subst this
      simp only [wid]
      rw [if_neg]
      have := hno (by omega)
      simpa using this
theorem cov_self (n k : Nat) (hk : k ≤ 32) (hm : n % 2 ^ (32 - k) = 0) : cov n (n + 2 ^ (32 - k) - 1) = [((n : Int), (k : Int))] := by
  have hpos : 0 < 2 ^ (32 - k) := Nat.pow_pos (by decide)
  have hw : wd n (n + 2 ^ (32 - k) - 1) = k := by
    refine wid_eq (fun j hj => ⟨?_, ?_⟩) (fun h0 => ?_) 32 hk
    · exact Nat.mod_eq_zero_of_dvd (Nat.dvd_trans (Nat.pow_dvd_pow 2 (by omega)) (Nat.dvd_of_mod_eq_zero hm))
    · have := Nat.pow_le_pow_right (n := 2) (by decide) (show 32 - j ≤ 32 - k by omega)
      omega
    · intro h
      have h2 := h.2
      rw [show 32 - (k - 1) = (32 - k) + 1 by omega, Nat.pow_succ] at h2
      omega
  rw [cov_step (by omega), hw, cov_done (by omega)]
theorem covL_self {a k : Int} (h : Pfx a k) : covL [rngP (a, k)] = [(a, k)] ∧ IsSet [rngP (a, k)] := by
  have hb := rngP_bnd (p := (a, k)) h
  refine ⟨?_, fun s hs => by rw [List.mem_singleton.1 hs]; exact hb, by simp⟩
  obtain ⟨n, b, rfl, rfl, hb, hn, hm⟩ := h.nat
  have hpos : 0 < 2 ^ (32 - b) := Nat.pow_pos (by decide)
  have e : rngP ((n : Int), (b : Int)) = ((n : Int), ((n + 2 ^ (32 - b) - 1 : Nat) : Int)) := by
    unfold rngP
    simp only [Prod.mk.injEq, true_and]
    rw [pw_nat]
    omega
  rw [e]
  simp only [covL, List.flatMap_cons, List.flatMap_nil, List.append_nil, covS, Int.toNat_natCast]
  exact cov_self n b hb hm
theorem rng_of {p : Spn} (h : Pfx p.1 p.2) : rngL p.1 p.2 = (rngP p).1 ∧ rngH p.1 p.2 = (rngP p).2 ∧ pprE p.1 p.2 = 0 := by
  unfold rngL rngH pprE
  rw [if_pos h, if_pos h, if_pos h]
  exact ⟨rfl, rfl, rfl⟩
end Go.Proofs.YtfjifedfenpbbaaDoor
