/-
  What an item is laid down as, and what a Reader takes up of it: the numbers and lists alone, no walk.
-/
import Derived.Test.YtonoobjpafhogaaDoorRd2
import Derived.Test.YtonoobjpafhogaaDoorScript
namespace Go.Proofs.YtonoobjpafhogaaDoor
open Go.RowKit

/-- The size of an item's number; the number; its text; what it is laid down as. -/
def szI (o : OpD) : Int := 1 + pickI o.on 8
def absI (n : Int) : Int := if n < 0 then -(n + 1) else n
def numI (o : OpD) : Int := if szI o = 8 then absI o.size else absI o.size % (256 ^ (szI o).toNat : Nat)
def txL (o : OpD) : List UInt8 := o.s.data.toList.take 65535
def moreI (o : OpD) : Int := ((txL o).length : Int) + pickI o.n 70000
def encI (o : OpD) : List UInt8 :=
  if pickI o.kind 3 = 0 then be (szI o).toNat (numI o).toNat else if pickI o.kind 3 = 1 then textS (txL o) else o.s.data.toList

theorem said_be (k n : Nat) : said (be k n) = n % 256 ^ k := by
  induction k generalizing n with
  | zero => simp [be, said, Nat.mod_one]
  | succ k ih =>
    have e : 256 ^ (k + 1) = 256 * 256 ^ k := by rw [Nat.pow_succ, Nat.mul_comm]
    have e2 : (UInt8.ofNat n).toNat = n % 256 := UInt8.toNat_ofNat'
    rw [be, said_snoc, ih, e, Nat.mod_mul, e2]
    omega
theorem len_list (s : ByteArray) : s.data.toList.length = s.size := Array.length_toList
theorem szI_bounds (o : OpD) : 1 ≤ szI o ∧ szI o ≤ 8 := by unfold szI pickI; omega
theorem absI_bounds {n : Int} (h : -9223372036854775808 ≤ n ∧ n ≤ 9223372036854775807) : 0 ≤ absI n ∧ absI n ≤ 9223372036854775807 := by unfold absI; split <;> omega
theorem numI_bounds {o : OpD} (ho : OpOk o) : 0 ≤ numI o ∧ numI o < (top (szI o).toNat : Nat) ∧ (top (szI o).toNat : Nat) ≤ 9223372036854775808 ∧ (numI o).toNat < 256 ^ (szI o).toNat := by
  obtain ⟨h1, h2⟩ := szI_bounds o
  obtain ⟨a1, a2⟩ := absI_bounds ho.size
  unfold numI
  by_cases h8 : szI o = 8
  · rw [if_pos h8, h8]
    simp only [top]
    refine ⟨a1, ?_, ?_, ?_⟩
    · simp; omega
    · simp
    · simp; omega
  · rw [if_neg h8]
    have hs : ¬ (szI o).toNat = 8 := by omega
    have hp : 0 < 256 ^ (szI o).toNat := Nat.pow_pos (by decide)
    have h7 := pow_7 (szI o).toNat (by omega)
    rw [top, if_neg hs]
    have e1 := Int.emod_nonneg (absI o.size) (show ((256 ^ (szI o).toNat : Nat) : Int) ≠ 0 by omega)
    have e2 := Int.emod_lt_of_pos (absI o.size) (show 0 < ((256 ^ (szI o).toNat : Nat) : Int) by omega)
    omega
theorem num_fits {o : OpD} (ho : OpOk o) : numC (szI o) (numI o) = 0 ∧ numS (szI o) (numI o) = be (szI o).toNat (numI o).toNat := by
  obtain ⟨h1, h2⟩ := szI_bounds o
  obtain ⟨b1, b2, _⟩ := numI_bounds ho
  exact num_yes h1 h2 ((fitsB_iff _ _).2 ⟨b1, b2⟩)
theorem txL_length (o : OpD) : (txL o).length ≤ 65535 ∧ (txL o).length ≤ o.s.size := by
  unfold txL
  rw [List.length_take]
  have := len_list o.s
  omega
theorem text_fits (o : OpD) : textC (txL o) = 0 ∧ textS (txL o) = be 2 (txL o).length ++ txL o := by
  have h := (txL_length o).1
  rw [textC, textS, if_neg (by omega), if_neg (by omega)]
  exact ⟨rfl, rfl⟩
theorem encI_length (o : OpD) : (encI o).length ≤ o.s.size + 8 := by
  have h := txL_length o
  have h2 := szI_bounds o
  unfold encI
  split
  · rw [be_length]; omega
  · split
    · rw [(text_fits o).2, List.length_append, be_length]; omega
    · have := len_list o.s
      omega

/-- A Reader at an item that is wholly there; at the beginning of one; behind an error. -/
theorem takeP_ok (R : List UInt8) (k : Nat) : takeP 0 R k 0 = (0, R.drop k, true) := by simp [takeP]
theorem takeP_no (R : List UInt8) (k : Nat) {c : Int} (h : c ≠ 0) : takeP 0 R k c = (c, [], false) := by simp [takeP, h]
theorem takeP_bad {E : Int} (R : List UInt8) (k : Nat) (c : Int) (h : E ≠ 0) : takeP E R k c = (E, [], false) := by simp [takeP, h]
theorem num_front {o : OpD} (ho : OpOk o) (R : List UInt8) : rNum 0 (be (szI o).toNat (numI o).toNat ++ R) (szI o) = ((numI o).toNat, 0, R) := by
  obtain ⟨h1, h2⟩ := szI_bounds o
  obtain ⟨b1, b2, b3, b4⟩ := numI_bounds ho
  have hl := be_length (szI o).toNat (numI o).toNat
  have ht : (be (szI o).toNat (numI o).toNat ++ R).take (szI o).toNat = be (szI o).toNat (numI o).toNat := List.take_left' hl
  have hd : (be (szI o).toNat (numI o).toNat ++ R).drop (szI o).toNat = R := List.drop_left' hl
  have hc : rnumC (be (szI o).toNat (numI o).toNat ++ R) (szI o) = 0 := by
    rw [rnumC, if_neg (by omega), if_neg (by rw [List.length_append, hl]; omega), ht, said_be, Nat.mod_eq_of_lt b4, if_neg (by omega)]
  rw [rNum, hc, takeP_ok, hd, rnumV, if_pos hc, ht, said_be, Nat.mod_eq_of_lt b4]
  rfl
theorem num_short (o : OpD) (R : List UInt8) (h : R.length < (szI o).toNat) : (rNum 0 R (szI o)).2 = (12, []) := by
  obtain ⟨h1, h2⟩ := szI_bounds o
  have hc : rnumC R (szI o) = 12 := by rw [rnumC, if_neg (by omega), if_pos (by omega)]
  rw [rNum, hc, takeP_no _ _ (by decide)]
theorem num_wrong (R : List UInt8) (n : Int) : (rNum 12 R n).2 = (12, []) := by rw [rNum, takeP_bad _ _ _ (by decide)]
theorem raw_front (s R : List UInt8) : rRaw 0 (s ++ R) (s.length : Int) = (s, 0, R) := by
  have hc : rawC (s ++ R) (s.length : Int) = 0 := by
    rw [rawC, if_neg (by omega), if_neg (by rw [List.length_append]; omega)]
  have hS : rawS (s ++ R) (s.length : Int) = s := by
    rw [rawS, if_neg (by omega), if_neg (by rw [List.length_append]; omega), Int.toNat_natCast, List.take_left]
  rw [rRaw, hc, takeP_ok, hS, Int.toNat_natCast, List.drop_left]
  rfl
theorem raw_short (R : List UInt8) (n : Nat) (h : R.length < n) : (rRaw 0 R (n : Int)).2 = (12, []) := by
  have hc : rawC R (n : Int) = 12 := by rw [rawC, if_neg (by omega), if_pos (by omega)]
  rw [rRaw, hc, takeP_no _ _ (by decide)]
theorem raw_wrong (R : List UInt8) (n : Int) : (rRaw 12 R n).2 = (12, []) := by rw [rRaw, takeP_bad _ _ _ (by decide)]
theorem text_front (s R : List UInt8) (m : Int) (hs : s.length ≤ 65535) (hm : (s.length : Int) ≤ m) : rText 0 (be 2 s.length ++ s ++ R) m = (s, 0, R) := by
  have hl := be_length 2 s.length
  have ht : (be 2 s.length ++ s ++ R).take 2 = be 2 s.length := by rw [List.append_assoc]; exact List.take_left' hl
  have hd : (be 2 s.length ++ s ++ R).drop 2 = s ++ R := by rw [List.append_assoc]; exact List.drop_left' hl
  have hsd : said (be 2 s.length) = s.length := by rw [said_be]; exact Nat.mod_eq_of_lt (by omega)
  have hlen : (be 2 s.length ++ s ++ R).length = 2 + s.length + R.length := by rw [List.length_append, List.length_append, hl]
  have hc : rtextC (be 2 s.length ++ s ++ R) m = 0 := by
    rw [rtextC, ht, hsd, hlen, if_neg (by omega), if_neg (by omega), if_neg (by omega)]
  have hS : rtextS (be 2 s.length ++ s ++ R) m = s := by
    rw [rtextS, if_pos hc, ht, hsd, hd, List.take_left]
  have hdd : (be 2 s.length ++ s ++ R).drop (2 + s.length) = R := List.drop_left' (by rw [List.length_append, hl])
  rw [rText, hc, hS, takeP_ok, hdd]
  rfl
theorem text_short (s R : List UInt8) (m : Int) (hs : s.length ≤ 65535) (hm : (s.length : Int) ≤ m) (h : R.length < 2 + s.length) (hp : R = (be 2 s.length ++ s).take R.length) : (rText 0 R m).2 = (12, []) := by
  have hl := be_length 2 s.length
  have hc : rtextC R m = 12 := by
    rw [rtextC]
    by_cases h2 : R.length < 2
    · rw [if_pos h2]
    · have ht : R.take 2 = be 2 s.length := by
        rw [hp, List.take_take, show min 2 R.length = 2 by omega]
        exact List.take_left' hl
      have hsd : said (be 2 s.length) = s.length := by rw [said_be]; exact Nat.mod_eq_of_lt (by omega)
      rw [if_neg h2, ht, hsd, if_neg (by omega), if_pos (by omega)]
  rw [rText, hc, takeP_no _ _ (by decide)]
theorem text_wrong (R : List UInt8) (n : Int) : (rText 12 R n).2 = (12, []) := by rw [rText, takeP_bad _ _ _ (by decide)]

/-- What gets answers, and what is behind it. -/
def gV (o : OpD) (E : Int) (R : List UInt8) : Prop :=
  if pickI o.kind 3 = 0 then ((rNum E R (szI o)).1 : Int) = numI o else if pickI o.kind 3 = 1 then (rText E R (moreI o)).1 = txL o else (rRaw E R o.s.size).1 = o.s.data.toList
def gP (o : OpD) (E : Int) (R : List UInt8) : Int × List UInt8 :=
  if pickI o.kind 3 = 0 then (rNum E R (szI o)).2 else if pickI o.kind 3 = 1 then (rText E R (moreI o)).2 else (rRaw E R o.s.size).2
theorem moreI_le (o : OpD) : ((txL o).length : Int) ≤ moreI o := by unfold moreI pickI; omega
theorem size_list (s : ByteArray) : (s.size : Int) = (s.data.toList.length : Int) := by rw [len_list]
theorem gets_front {o : OpD} (ho : OpOk o) (R : List UInt8) : gV o 0 (encI o ++ R) ∧ gP o 0 (encI o ++ R) = (0, R) := by
  unfold gV gP encI
  by_cases h0 : pickI o.kind 3 = 0
  · rw [if_pos h0, if_pos h0, if_pos h0, num_front ho]
    exact ⟨Int.toNat_of_nonneg (numI_bounds ho).1, rfl⟩
  · rw [if_neg h0, if_neg h0, if_neg h0]
    by_cases h1 : pickI o.kind 3 = 1
    · rw [if_pos h1, if_pos h1, if_pos h1, (text_fits o).2, text_front _ _ _ (txL_length o).1 (moreI_le o)]
      exact ⟨rfl, rfl⟩
    · rw [if_neg h1, if_neg h1, if_neg h1, size_list, raw_front]
      exact ⟨rfl, rfl⟩
theorem gets_short (o : OpD) (R : List UInt8) (h : R.length < (encI o).length) (hp : R = (encI o).take R.length) : gP o 0 R = (12, []) := by
  unfold gP
  unfold encI at h hp
  by_cases h0 : pickI o.kind 3 = 0
  · rw [if_pos h0]
    rw [if_pos h0, be_length] at h
    exact num_short o R h
  · rw [if_neg h0]
    rw [if_neg h0] at h hp
    by_cases h1 : pickI o.kind 3 = 1
    · rw [if_pos h1]
      rw [if_pos h1, (text_fits o).2] at h hp
      rw [List.length_append, be_length] at h
      exact text_short _ _ _ (txL_length o).1 (moreI_le o) h hp
    · rw [if_neg h1]
      rw [if_neg h1] at h
      rw [size_list]
      exact raw_short _ _ h
theorem gets_wrong (o : OpD) (R : List UInt8) : gP o 12 R = (12, []) := by
  unfold gP
  split
  · exact num_wrong _ _
  · split
    · exact text_wrong _ _
    · exact raw_wrong _ _

/-- The first k items, laid down. -/
def encs (f : Nat → OpD) : Nat → List UInt8
  | 0 => []
  | k + 1 => encs f k ++ encI (f k)
theorem encs_split (f : Nat → OpD) (a n : Nat) : ∃ Y, encs f (a + n) = encs f a ++ Y := by
  induction n with
  | zero => exact ⟨[], by simp⟩
  | succ n ih =>
    obtain ⟨Y, h⟩ := ih
    exact ⟨Y ++ encI (f (a + n)), by rw [← Nat.add_assoc, encs, h, List.append_assoc]⟩
/-- What the guard counts: the first k items' 100 and twice their texts. -/
def wgt (m : Nat) (f : Nat → OpD) : Nat → Nat
  | 0 => m + 1
  | k + 1 => wgt m f k + 100 + 2 * (f k).s.size
theorem wgt_mono (m : Nat) (f : Nat → OpD) (a b : Nat) (h : a ≤ b) : wgt m f a ≤ wgt m f b := by
  induction b with
  | zero => rw [Nat.le_zero.1 h]; exact Nat.le_refl _
  | succ b ih =>
    rcases Nat.lt_or_ge a (b + 1) with h' | h'
    · have := ih (by omega); simp only [wgt]; omega
    · rw [show a = b + 1 by omega]; exact Nat.le_refl _
theorem encs_length (m : Nat) (f : Nat → OpD) (k : Nat) : (encs f k).length + m + 1 ≤ wgt m f k := by
  induction k with
  | zero => simp [encs, wgt]
  | succ k ih =>
    have := encI_length (f k)
    rw [encs, wgt, List.length_append]
    omega

/-- A Reader of D that stands behind i items: all is well, or (of a text that is short) the error is there. -/
def IR (f : Nat → OpD) (short : Prop) (D : List UInt8) (i : Nat) (E : Int) (R : List UInt8) : Prop :=
  (E = 0 ∧ D = encs f i ++ R) ∨ (short ∧ E = 12 ∧ R = [])
/-- The text that is read: all that was laid down and X behind it, or one byte less. -/
def Txt (f : Nat → OpD) (len : Nat) (short : Prop) (D : List UInt8) : Prop :=
  (¬ short ∧ ∃ X, D = encs f len ++ X) ∨ (short ∧ D = (encs f len).dropLast ∧ encs f len ≠ [])
theorem ir_step {f : Nat → OpD} {len : Nat} {short : Prop} {D : List UInt8} {i : Nat} {E : Int} {R : List UInt8} (hi : i < len) (ho : OpOk (f i)) (hT : Txt f len short D) (h : IR f short D i E R) :
    (¬ short → gV (f i) E R) ∧ IR f short D (i + 1) (gP (f i) E R).1 (gP (f i) E R).2 := by
  rcases h with ⟨rfl, hD⟩ | ⟨hs, rfl, rfl⟩
  · obtain ⟨Y, hY⟩ := encs_split f (i + 1) (len - (i + 1))
    rw [show i + 1 + (len - (i + 1)) = len by omega, encs] at hY
    rcases hT with ⟨hn, X, hX⟩ | ⟨hs, hX, hne⟩
    · have hR : R = encI (f i) ++ (Y ++ X) := by
        rw [hX, hY] at hD
        have : encs f i ++ (encI (f i) ++ (Y ++ X)) = encs f i ++ R := by rw [← hD]; simp [List.append_assoc]
        exact (List.append_cancel_left this).symm
      obtain ⟨g1, g2⟩ := gets_front ho (Y ++ X)
      rw [← hR] at g1 g2
      refine ⟨fun _ => g1, .inl ?_⟩
      rw [g2]
      exact ⟨rfl, by rw [hD, hR, encs, List.append_assoc]⟩
    · refine ⟨fun h => absurd hs h, ?_⟩
      have hp : (encI (f i) ++ Y).dropLast = R ∨ (encI (f i) ++ Y = [] ∧ R = []) := by
        by_cases hz : encI (f i) ++ Y = []
        · right
          refine ⟨hz, ?_⟩
          have hl := congrArg List.length hD
          rw [hX, hY, List.append_assoc, hz] at hl
          simp at hl
          exact List.eq_nil_of_length_eq_zero (by omega)
        · left
          rw [hX, hY, List.append_assoc, List.dropLast_append_of_ne_nil hz] at hD
          exact List.append_cancel_left hD
      by_cases hlt : R.length < (encI (f i)).length
      · right
        have hpre : R = (encI (f i)).take R.length := by
          rcases hp with hp | ⟨hz, hr⟩
          · have hl : R.length = (encI (f i) ++ Y).length - 1 := by rw [← hp]; simp
            have : Y = [] := by
              apply List.eq_nil_of_length_eq_zero
              rw [List.length_append] at hl
              omega
            subst this
            rw [List.append_nil] at hp hl
            rw [hl, ← List.dropLast_eq_take]
            exact hp.symm
          · rw [hr]; simp
        rw [gets_short _ _ hlt hpre]
        exact ⟨hs, rfl, rfl⟩
      · left
        have hR : ∃ R', R = encI (f i) ++ R' := by
          rcases hp with hp | ⟨hz, hr⟩
          · by_cases hy : Y = []
            · subst hy
              rw [List.append_nil] at hp
              have hl : R.length = (encI (f i)).length - 1 := by rw [← hp]; simp
              have h0 : (encI (f i)).length = 0 := by omega
              have h1 := List.eq_nil_of_length_eq_zero h0
              exact ⟨R, by rw [h1]; rfl⟩
            · exact ⟨Y.dropLast, by rw [← hp, List.dropLast_append_of_ne_nil hy]⟩
          · have := (List.append_eq_nil_iff.1 hz).1
            exact ⟨[], by rw [this, hr]; rfl⟩
        obtain ⟨R', hR'⟩ := hR
        have g2 := (gets_front ho R').2
        rw [← hR'] at g2
        rw [g2]
        exact ⟨rfl, by rw [hD, hR', encs, List.append_assoc]⟩
  · refine ⟨fun h => absurd hs h, .inr ?_⟩
    rw [gets_wrong]
    exact ⟨hs, rfl, rfl⟩
/-- Behind all items. -/
theorem ir_end_well {f : Nat → OpD} {len : Nat} {short : Prop} {X : List UInt8} {E : Int} {R : List UInt8} (hn : ¬ short) (h : IR f short (encs f len ++ X) len E R) : E = 0 ∧ R = X := by
  rcases h with ⟨rfl, hD⟩ | ⟨hs, _⟩
  · exact ⟨rfl, (List.append_cancel_left hD).symm⟩
  · exact absurd hs hn
theorem ir_end_short {f : Nat → OpD} {len : Nat} {short : Prop} {E : Int} {R : List UInt8} (hne : encs f len ≠ []) (h : IR f short (encs f len).dropLast len E R) : E = 12 ∧ R = [] := by
  rcases h with ⟨_, hD⟩ | ⟨_, h1, h2⟩
  · exfalso
    have hl := congrArg List.length hD
    rw [List.length_dropLast, List.length_append] at hl
    have : 0 < (encs f len).length := List.length_pos_iff.2 hne
    omega
  · exact ⟨h1, h2⟩
theorem ir_length {f : Nat → OpD} {short : Prop} {D : List UInt8} {i : Nat} {E : Int} {R : List UInt8} (h : IR f short D i E R) : R.length ≤ D.length := by
  rcases h with ⟨_, hD⟩ | ⟨_, _, h2⟩
  · rw [hD, List.length_append]; omega
  · rw [h2]; simp
end Go.Proofs.YtonoobjpafhogaaDoor
