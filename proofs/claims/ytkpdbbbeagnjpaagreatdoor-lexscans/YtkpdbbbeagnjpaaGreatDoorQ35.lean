/-
  The document's number and cut by their contracts. Condition: a text is no longer than a process can hold.
-/
import Derived.Test.YtkpdbbbeagnjpaaGreatDoorQ34
import Derived.Test.YtkpdbbbeagnjpaaGreatDoorQ19
import Derived.Test.YtkpdbbbeagnjpaaGreatDoorQ17
namespace Go.Proofs.YtkpdbbbeagnjpaaGreatDoor
open Go.RowKit Go.Lib

theorem dec_len3 (m : Nat) (h : m ≤ 255) : (decDigits m).length ≤ 3 := by
  by_cases h1 : m < 10
  · rw [decDigits_one h1]; simp
  · rw [dec_step m h1]
    by_cases h2 : m / 10 < 10
    · rw [decDigits_one h2]; simp
    · rw [dec_step _ h2, decDigits_one (show m / 10 / 10 < 10 by omega)]; simp
theorem rn_long {l : List UInt8} {most : Nat} (hm : most ≤ 255) (h : 3 < l.length) : rn l most = none := by
  cases e : rn l most with
  | none => rfl
  | some m =>
    obtain ⟨h1, h2⟩ := rn_some e
    have := dec_len3 m (by omega)
    rw [← h1] at this
    omega
theorem valL_lt : ∀ (l : List UInt8) (n : Nat), (∀ c ∈ l, isDig c) → valL l n < (n + 1) * 10 ^ l.length
  | [], n, _ => by simp [valL]
  | c :: t, n, h => by
    have hc := h c (by simp)
    have h2 : c.toNat ≤ 57 := UInt8.le_iff_toNat_le.1 hc.2
    have := valL_lt t (n * 10 + (c.toNat - 48)) (fun x hx => h x (by simp [hx]))
    simp only [valL, List.length_cons, Nat.pow_succ]
    refine Nat.lt_of_lt_of_le this ?_
    rw [Nat.mul_comm (10 ^ t.length) 10, ← Nat.mul_assoc]
    exact Nat.mul_le_mul_right _ (by omega)
theorem take_snoc' (l : List UInt8) (k : Nat) (h : k < l.length) : l.take (k + 1) = l.take k ++ [l[k]] := List.take_succ_eq_append_getElem h

/-- What the document's number answers. -/
def NumIs (l : List UInt8) (most : Nat) (e : Ending) : Prop := ∃ x : Int, e = .returned (.tuple #[.int .i64 x, .bool (rn l most).isSome]) ∧ ∀ m, rn l most = some m → x = m
theorem NumIs.no {l : List UInt8} {most : Nat} (h : rn l most = none) (x : Int) : NumIs l most (.returned (.tuple #[.int .i64 x, .bool false])) := ⟨x, by rw [h]; rfl, fun m e => by rw [h] at e; cases e⟩

set_option maxRecDepth 100000 in
set_option maxHeartbeats 1000000 in
theorem refNumber_any (l : List UInt8) (most : Nat) (hm : most ≤ 255) (hl : l.length ≤ 140737488351232) (w : World) :
    Calls Tryz.prog 69 #[.string ⟨l.toArray⟩, .int .i64 most] w fun e w' => NumIs l most e ∧ w' = w := by
  by_cases h0 : l = []
  · have e : rn l most = none := if_pos (.inl h0)
    have hz : (l.length : Int) < 1 := by rw [h0]; decide
    have HE := hide e
    clear e
    go_enter Tryz.func69, Tryz.ntmps69
    go_wp2
    go_ret2
    exact ⟨NumIs.no HE.out _, rfl⟩
  have hpos : 0 < l.length := List.length_pos_iff.2 h0
  have hz : ¬ (l.length : Int) < 1 := by omega
  by_cases h3 : 3 < l.length
  · have e := rn_long hm h3
    have h3 : (3 : Int) < l.length := by omega
    have HE := hide e
    clear e
    go_enter Tryz.func69, Tryz.ntmps69
    go_wp2
    go_ret2
    exact ⟨NumIs.no HE.out _, rfl⟩
  have hi0 := idx_str l 0 hpos
  have h3' : ¬ (3 : Int) < l.length := by omega
  by_cases h1 : 1 < l.length ∧ l.getD 0 0 = 48
  · have e : rn l most = none := if_pos (.inr h1)
    have e2 : ((⟨l.toArray⟩ : ByteArray)[0]'hpos).toNat = 48 := by
      rw [hi0]
      have := h1.2
      simp [List.getD_eq_getElem?_getD, hpos] at this
      rw [this]; rfl
    have h2 : (1 : Int) < (l.length : Int) := by omega
    have HE := hide e
    clear e h1 hi0
    go_enter Tryz.func69, Tryz.ntmps69
    go_wp2
    go_ret2
    exact ⟨NumIs.no HE.out _, rfl⟩
  have HE : Hid (rn l most = rnGo most l 0) := if_neg (fun h => h.elim h0 h1)
  by_cases h2 : 1 < l.length
  · have e2 : ((((⟨l.toArray⟩ : ByteArray)[0]'hpos).toNat : Int) == 48) = false := by
      have hx : ¬ l[0] = 48 := fun h => h1 ⟨h2, by simpa [List.getD_eq_getElem?_getD, hpos] using h⟩
      rw [hi0, beq_eq_false_iff_ne]
      intro h
      exact hx ((u8lt _).2.2.2 (by omega))
    have h2 : (1 : Int) < (l.length : Int) := by omega
    clear h1 hi0
    go_enter Tryz.func69, Tryz.ntmps69
    go_wp2
    go_loopw [6, 7] (fun n i wr => ∃ k N : Nat, k ≤ l.length ∧ i = .int .i64 k ∧ n = .int .i64 N ∧ N ≤ 1000 ∧ Hid (N = valL (l.take k) 0) ∧ Hid (∀ c ∈ l.take k, isDig c) ∧ wr = w) (fun _ i _ => l.length - (RowKit.intOf i).toNat)
    case atStart => exact ⟨0, 0, Nat.zero_le _, rfl, rfl, by omega, rfl, fun c hc => by simp at hc, rfl⟩
    case round =>
      obtain ⟨k, N, hk, rfl, rfl, hN, HV, HD, hwr⟩ := hrel
      have hwr := hwr.symm
      subst hwr
      by_cases hlt : k < l.length
      · have hix := idx_str l k hlt
        have hsn := take_snoc' l k hlt
        have hmem : l[k] ∈ l := List.getElem_mem hlt
        obtain ⟨c, hc⟩ : ∃ c, c = l[k] := ⟨_, rfl⟩
        rw [← hc] at hix hsn hmem
        obtain ⟨u1, u2, _⟩ := u8lt c
        have hb : c.toNat < 256 := c.toNat_lt
        have HS := hide hsn
        have HM := hide hmem
        clear hc hsn hmem
        have hlt' : (k : Int) < l.length := by omega
        by_cases c0 : c.toNat < 48 ∨ 57 < c.toNat
        · have e : rn l most = none := by
            rw [HE.out]
            exact rnGo_none (fun h => by have := h.1 c HM.out; unfold isDig at this; rw [UInt8.le_iff_toNat_le, UInt8.le_iff_toNat_le] at this; simp at this; omega) (Nat.zero_le _)
          have HN := hide e
          clear e u1 u2
          by_cases c1 : (c.toNat : Int) < 48
          · clear c0
            go_wp2
            go_ret2
            exact ⟨NumIs.no HN.out _, rfl⟩
          · have c2 : (57 : Int) < (c.toNat : Int) := by omega
            clear c0
            go_wp2
            go_ret2
            exact ⟨NumIs.no HN.out _, rfl⟩
        obtain ⟨g, hg⟩ : ∃ g : Nat, (c.toNat : Int) = g + 48 := ⟨c.toNat - 48, by omega⟩
        have hgd : c.toNat - 48 = g := by omega
        have HD2 : Hid (∀ x ∈ l.take (k + 1), isDig x) := by
          intro x hx
          rw [HS.out] at hx
          rcases List.mem_append.1 hx with hx | hx
          · exact HD.out x hx
          · rw [List.mem_singleton.1 hx]
            unfold isDig
            rw [UInt8.le_iff_toNat_le, UInt8.le_iff_toNat_le]
            simp
            omega
        have HV2 : Hid (N * 10 + g = valL (l.take (k + 1)) 0) := by
          unfold Hid
          rw [HS.out, valL_append, ← HV.out, hgd]
        have hN2 : N * 10 + g ≤ 1000 := by
          rw [HV2.out]
          have h5 := valL_lt (l.take (k + 1)) 0 HD2.out
          have h6 : (l.take (k + 1)).length ≤ 3 := by rw [List.length_take]; omega
          have h7 : 10 ^ (l.take (k + 1)).length ≤ 10 ^ 3 := Nat.pow_le_pow_right (by decide) h6
          omega
        have d1 : ¬ (c.toNat : Int) < 48 := by omega
        have d2 : ¬ (57 : Int) < (c.toNat : Int) := by omega
        have w1 : IntKind.u8.wrap ((c.toNat : Int) - 48) = g := by rw [IntKind.wrap_u8]; omega
        clear u1 u2 c0 hgd
        go_wp2
        go_roundw
        case rel => exact ⟨k + 1, N * 10 + g, by omega, by go_num, by first | go_num | (congr 1; omega), hN2, HV2, HD2, by first | rfl | trivial⟩
        case measure => simp [RowKit.intOf]; omega
      · have h8 : k = l.length := by omega
        subst h8
        rw [List.take_length] at HV HD
        have hlt' : ¬ (l.length : Int) < l.length := by omega
        have HR : Hid (rn l most = if N ≤ most then some N else none) := by
          unfold Hid
          rw [HE.out, HV.out]
          split
          · exact rnGo_of HD.out (by assumption)
          · exact rnGo_none (fun h => by have := h.2; omega) (Nat.zero_le _)
        by_cases hq : N ≤ most
        · have hq' : (N : Int) ≤ most := by omega
          have HR2 : Hid (rn l most = some N) := by unfold Hid; rw [HR.out, if_pos hq]
          clear HR
          go_wp2
          go_ret2
          exact ⟨⟨N, by rw [HR2.out]; rfl, fun m e => by rw [HR2.out] at e; cases e; rfl⟩, rfl⟩
        · have hq' : ¬ (N : Int) ≤ most := by omega
          have HR2 : Hid (rn l most = none) := by unfold Hid; rw [HR.out, if_neg hq]
          clear HR
          go_wp2
          go_ret2
          exact ⟨NumIs.no HR2.out _, rfl⟩
  · have h2 : ¬ (1 : Int) < (l.length : Int) := by omega
    clear h1 hi0
    go_enter Tryz.func69, Tryz.ntmps69
    go_wp2
    go_loopw [6, 7] (fun n i wr => ∃ k N : Nat, k ≤ l.length ∧ i = .int .i64 k ∧ n = .int .i64 N ∧ N ≤ 1000 ∧ Hid (N = valL (l.take k) 0) ∧ Hid (∀ c ∈ l.take k, isDig c) ∧ wr = w) (fun _ i _ => l.length - (RowKit.intOf i).toNat)
    case atStart => exact ⟨0, 0, Nat.zero_le _, rfl, rfl, by omega, rfl, fun c hc => by simp at hc, rfl⟩
    case round =>
      obtain ⟨k, N, hk, rfl, rfl, hN, HV, HD, hwr⟩ := hrel
      have hwr := hwr.symm
      subst hwr
      by_cases hlt : k < l.length
      · have hix := idx_str l k hlt
        have hsn := take_snoc' l k hlt
        have hmem : l[k] ∈ l := List.getElem_mem hlt
        obtain ⟨c, hc⟩ : ∃ c, c = l[k] := ⟨_, rfl⟩
        rw [← hc] at hix hsn hmem
        obtain ⟨u1, u2, _⟩ := u8lt c
        have hb : c.toNat < 256 := c.toNat_lt
        have HS := hide hsn
        have HM := hide hmem
        clear hc hsn hmem
        have hlt' : (k : Int) < l.length := by omega
        by_cases c0 : c.toNat < 48 ∨ 57 < c.toNat
        · have e : rn l most = none := by
            rw [HE.out]
            exact rnGo_none (fun h => by have := h.1 c HM.out; unfold isDig at this; rw [UInt8.le_iff_toNat_le, UInt8.le_iff_toNat_le] at this; simp at this; omega) (Nat.zero_le _)
          have HN := hide e
          clear e u1 u2
          by_cases c1 : (c.toNat : Int) < 48
          · clear c0
            go_wp2
            go_ret2
            exact ⟨NumIs.no HN.out _, rfl⟩
          · have c2 : (57 : Int) < (c.toNat : Int) := by omega
            clear c0
            go_wp2
            go_ret2
            exact ⟨NumIs.no HN.out _, rfl⟩
        obtain ⟨g, hg⟩ : ∃ g : Nat, (c.toNat : Int) = g + 48 := ⟨c.toNat - 48, by omega⟩
        have hgd : c.toNat - 48 = g := by omega
        have HD2 : Hid (∀ x ∈ l.take (k + 1), isDig x) := by
          intro x hx
          rw [HS.out] at hx
          rcases List.mem_append.1 hx with hx | hx
          · exact HD.out x hx
          · rw [List.mem_singleton.1 hx]
            unfold isDig
            rw [UInt8.le_iff_toNat_le, UInt8.le_iff_toNat_le]
            simp
            omega
        have HV2 : Hid (N * 10 + g = valL (l.take (k + 1)) 0) := by
          unfold Hid
          rw [HS.out, valL_append, ← HV.out, hgd]
        have hN2 : N * 10 + g ≤ 1000 := by
          rw [HV2.out]
          have h5 := valL_lt (l.take (k + 1)) 0 HD2.out
          have h6 : (l.take (k + 1)).length ≤ 3 := by rw [List.length_take]; omega
          have h7 : 10 ^ (l.take (k + 1)).length ≤ 10 ^ 3 := Nat.pow_le_pow_right (by decide) h6
          omega
        have d1 : ¬ (c.toNat : Int) < 48 := by omega
        have d2 : ¬ (57 : Int) < (c.toNat : Int) := by omega
        have w1 : IntKind.u8.wrap ((c.toNat : Int) - 48) = g := by rw [IntKind.wrap_u8]; omega
        clear u1 u2 c0 hgd
        go_wp2
        go_roundw
        case rel => exact ⟨k + 1, N * 10 + g, by omega, by go_num, by first | go_num | (congr 1; omega), hN2, HV2, HD2, by first | rfl | trivial⟩
        case measure => simp [RowKit.intOf]; omega
      · have h8 : k = l.length := by omega
        subst h8
        rw [List.take_length] at HV HD
        have hlt' : ¬ (l.length : Int) < l.length := by omega
        have HR : Hid (rn l most = if N ≤ most then some N else none) := by
          unfold Hid
          rw [HE.out, HV.out]
          split
          · exact rnGo_of HD.out (by assumption)
          · exact rnGo_none (fun h => by have := h.2; omega) (Nat.zero_le _)
        by_cases hq : N ≤ most
        · have hq' : (N : Int) ≤ most := by omega
          have HR2 : Hid (rn l most = some N) := by unfold Hid; rw [HR.out, if_pos hq]
          clear HR
          go_wp2
          go_ret2
          exact ⟨⟨N, by rw [HR2.out]; rfl, fun m e => by rw [HR2.out] at e; cases e; rfl⟩, rfl⟩
        · have hq' : ¬ (N : Int) ≤ most := by omega
          have HR2 : Hid (rn l most = none) := by unfold Hid; rw [HR.out, if_neg hq]
          clear HR
          go_wp2
          go_ret2
          exact ⟨NumIs.no HR2.out _, rfl⟩

set_option maxRecDepth 100000 in
set_option maxHeartbeats 1000000 in
theorem refCut_some {l p r : List UInt8} {c : UInt8} (h : cutL c l = some (p, r)) (hl : l.length ≤ 140737488351232) (w : World) : Calls Tryz.prog 67 #[.string ⟨l.toArray⟩, .int .u8 c.toNat] w fun e w' => e = .returned (.tuple #[.string ⟨p.toArray⟩, .string ⟨r.toArray⟩, .bool true]) ∧ Below w.heap.size w w' := by
  have e1 := ext_l h
  have e2 := ext_r h
  have hc := cut_len h
  obtain ⟨hs, hn⟩ := cutL_some h
  have hat : ∀ k (hk : k < l.length), (k < p.length → l[k] ≠ c) ∧ (k = p.length → l[k] = c) := by
    intro k hk
    subst hs
    refine ⟨fun h1 h2 => ?_, fun h1 => ?_⟩
    · rw [List.getElem_append_left h1] at h2
      exact hn (h2 ▸ List.getElem_mem h1)
    · subst h1; simp
  have HA := hide hat
  clear hat hs hn h
  go_enter Tryz.func67, Tryz.ntmps67
  go_wp2
  go_loopw [7] (fun i wr => ∃ k : Nat, k ≤ p.length ∧ i = .int .i64 k ∧ wr = w) (fun i _ => l.length - (RowKit.intOf i).toNat)
  case atStart => exact ⟨0, Nat.zero_le _, rfl, rfl⟩
  case round =>
    obtain ⟨k, hk, rfl, hwr⟩ := hrel
    have hwr := hwr.symm
    subst hwr
    have hlt : k < l.length := by omega
    have hlt' : (k : Int) < l.length := by omega
    have hix := idx_str l k hlt
    obtain ⟨a1, a2⟩ := HA.out k hlt
    by_cases hkp : k < p.length
    · have hne : (((⟨l.toArray⟩ : ByteArray)[k]'hlt).toNat == c.toNat) = false := by
        rw [hix, beq_eq_false_iff_ne]
        exact fun h => a1 hkp (UInt8.toNat_inj.1 h)
      have hne' : ((((⟨l.toArray⟩ : ByteArray)[k]'hlt).toNat : Int) == (c.toNat : Int)) = false := by
        rw [beq_eq_false_iff_ne] at hne ⊢; omega
      clear hne a1 a2 hix e1 e2
      go_wp2
      go_roundw
      case rel => exact ⟨k + 1, by omega, by go_num, by first | rfl | trivial⟩
      case measure => simp [RowKit.intOf]; omega
    · have hkp : k = p.length := by omega
      have heq : ((⟨l.toArray⟩ : ByteArray)[k]'hlt).toNat = c.toNat := by rw [hix, a2 hkp]
      subst hkp
      clear a1 a2 hix
      have z1 : (0 : Int) ≤ p.length := by omega
      have z2 : (p.length : Int) ≤ l.length := by omega
      have z3 : (0 : Int) ≤ p.length + 1 := by omega
      have z4 : (p.length + 1 : Int) ≤ l.length := by omega
      clear hc
      go_wp2
      go_region
      go_wp2
      go_ret3
      exact ⟨rfl, (Below.refl _ _).drew⟩
set_option maxRecDepth 100000 in
set_option maxHeartbeats 1000000 in
theorem refCut_none {l : List UInt8} {c : UInt8} (h : cutL c l = none) (hl : l.length ≤ 140737488351232) (w : World) : Calls Tryz.prog 67 #[.string ⟨l.toArray⟩, .int .u8 c.toNat] w fun e w' => e = .returned (.tuple #[.string ⟨l.toArray⟩, .string ⟨#[]⟩, .bool false]) ∧ Below w.heap.size w w' := by
  have hn : c ∉ l := cutL_none.1 h
  have hat : ∀ k (hk : k < l.length), l[k] ≠ c := fun k hk e => hn (e ▸ List.getElem_mem hk)
  have HA := hide hat
  clear hat hn h
  go_enter Tryz.func67, Tryz.ntmps67
  go_wp2
  go_loopw [7] (fun i wr => ∃ k : Nat, k ≤ l.length ∧ i = .int .i64 k ∧ wr = w) (fun i _ => l.length - (RowKit.intOf i).toNat)
  case atStart => exact ⟨0, Nat.zero_le _, rfl, rfl⟩
  case round =>
    obtain ⟨k, hk, rfl, hwr⟩ := hrel
    have hwr := hwr.symm
    subst hwr
    by_cases hlt : k < l.length
    · have hlt' : (k : Int) < l.length := by omega
      have hix := idx_str l k hlt
      have hne' : ((((⟨l.toArray⟩ : ByteArray)[k]'hlt).toNat : Int) == (c.toNat : Int)) = false := by
        rw [hix, beq_eq_false_iff_ne]
        exact fun h => HA.out k hlt (UInt8.toNat_inj.1 (by omega))
      clear hix
      go_wp2
      go_roundw
      case rel => exact ⟨k + 1, by omega, by go_num, by first | rfl | trivial⟩
      case measure => simp [RowKit.intOf]; omega
    · have hlt' : ¬ (k : Int) < l.length := by omega
      go_wp2
      go_ret3
      exact ⟨rfl, Below.refl _ _⟩
end Go.Proofs.YtkpdbbbeagnjpaaGreatDoor
