/-
  readNumber by its contract. Condition: a text is no longer than a process can hold.
-/
import Derived.Test.YtkpdbbbeagnjpaaDoorQuad
import Derived.Test.YtkpdbbbeagnjpaaDoorLst
namespace Go.Proofs.YtkpdbbbeagnjpaaDoor
open Go.RowKit Go.Lib

theorem idx_str (l : List UInt8) (k : Nat) (hk : k < l.length) : ((⟨l.toArray⟩ : ByteArray)[k]'hk) = l[k] := by
  simp [ByteArray.getElem_eq_getElem_data]
theorem u8lt (c : UInt8) : (c < 48 ↔ c.toNat < 48) ∧ (57 < c ↔ 57 < c.toNat) ∧ (c = 48 ↔ c.toNat = 48) :=
  ⟨UInt8.lt_iff_toNat_lt, UInt8.lt_iff_toNat_lt, UInt8.toNat_inj.symm⟩
set_option maxRecDepth 100000 in
set_option maxHeartbeats 4000000 in
theorem readNumber_any (l : List UInt8) (most : Nat) (hm : most ≤ 1000) (hl : l.length ≤ 140737488351232) (w : World) :
    Calls Tryd.prog 52 #[.string ⟨l.toArray⟩, .int .i64 most] w fun e w' => e = .returned (.tuple #[.int .i64 (((rn l most).getD 0 : Nat) : Int), .bool (rn l most).isSome]) ∧ w' = w := by
  by_cases h0 : l = []
  · have e : rn l most = none := if_pos (.inl h0)
    rw [e]
    subst h0
    clear e
    go_enter Tryd.func52, Tryd.ntmps52
    go_wp2
    go_ret2
    exact ⟨rfl, rfl⟩
  have hpos : 0 < l.length := List.length_pos_iff.2 h0
  have hemp : l.isEmpty = false := by simpa using h0
  have hi0 := idx_str l 0 hpos
  by_cases h1 : 1 < l.length ∧ l.getD 0 0 = 48
  · have e : rn l most = none := if_pos (.inr h1)
    rw [e]
    have e2 : ((⟨l.toArray⟩ : ByteArray)[0]'hpos).toNat = 48 := by
      rw [hi0]
      have := h1.2
      simp [List.getD_eq_getElem?_getD, hpos] at this
      rw [this]; rfl
    have h2 : (1 : Int) < (l.length : Int) := by omega
    clear e h1 hi0
    go_enter Tryd.func52, Tryd.ntmps52
    go_wp2
    go_ret2
    exact ⟨rfl, rfl⟩
  have e : rn l most = rnGo most l 0 := if_neg (fun h => h.elim h0 h1)
  rw [e]
  clear e
  by_cases h2 : 1 < l.length
  · have e2 : ((((⟨l.toArray⟩ : ByteArray)[0]'hpos).toNat : Int) == 48) = false := by
      have hx : ¬ l[0] = 48 := fun h => h1 ⟨h2, by simpa [List.getD_eq_getElem?_getD, hpos] using h⟩
      rw [hi0, beq_eq_false_iff_ne]
      intro h
      exact hx ((u8lt _).2.2.2 (by omega))
    have h2 : (1 : Int) < (l.length : Int) := by omega
    clear h1 hi0
    go_enter Tryd.func52, Tryd.ntmps52
    go_wp2
    go_loopw [6, 22] (fun n i wr => ∃ k N : Nat, k ≤ l.length ∧ i = .int .i64 k ∧ n = .int .i64 N ∧ N ≤ 1000 ∧ Hid (rnGo most l 0 = rnGo most (l.drop k) N) ∧ wr = w) (fun _ i _ => l.length - (RowKit.intOf i).toNat)
    case atStart => exact ⟨0, 0, Nat.zero_le _, rfl, rfl, by omega, rfl, rfl⟩
    case round =>
      obtain ⟨k, N, hk, rfl, rfl, hN, HG, hwr⟩ := hrel
      have hwr := hwr.symm
      subst hwr
      by_cases hlt : k < l.length
      · have hd : l.drop k = l[k] :: l.drop (k + 1) := List.drop_eq_getElem_cons hlt
        rw [hd] at HG
        have hix := idx_str l k hlt
        obtain ⟨c, hc⟩ : ∃ c, c = l[k] := ⟨_, rfl⟩
        rw [← hc] at hix HG
        obtain ⟨u1, u2, _⟩ := u8lt c
        have HG2 : Hid (rnGo most l 0 = if c < 48 ∨ 57 < c then none else if most < N * 10 + (c.toNat - 48) then none else rnGo most (l.drop (k + 1)) (N * 10 + (c.toNat - 48))) := HG
        have hb : c.toNat < 256 := c.toNat_lt
        clear hd hc HG
        by_cases c1 : c.toNat < 48
        · have e : rnGo most l 0 = none := by rw [HG2.out, if_pos (.inl (u1.2 c1))]
          have HE := hide e
          have c1 : (c.toNat : Int) < 48 := by omega
          clear e u1 u2
          go_wp2
          go_ret2
          exact ⟨by rw [HE.out]; rfl, rfl⟩
        by_cases c2 : 57 < c.toNat
        · have e : rnGo most l 0 = none := by rw [HG2.out, if_pos (.inr (u2.2 c2))]
          have HE := hide e
          have c1 : ¬ (c.toNat : Int) < 48 := by omega
          have c2 : (57 : Int) < (c.toNat : Int) := by omega
          clear e u1 u2
          go_wp2
          go_ret2
          exact ⟨by rw [HE.out]; rfl, rfl⟩
        have hno : ¬ (c < 48 ∨ 57 < c) := fun h => h.elim (fun h => c1 (u1.1 h)) (fun h => c2 (u2.1 h))
        have HG3 : Hid (rnGo most l 0 = if most < N * 10 + (c.toNat - 48) then none else rnGo most (l.drop (k + 1)) (N * 10 + (c.toNat - 48))) := by unfold Hid; rw [HG2.out, if_neg hno]
        obtain ⟨g, hg⟩ : ∃ g : Nat, (c.toNat : Int) = g + 48 := ⟨c.toNat - 48, by omega⟩
        have hgd : c.toNat - 48 = g := by omega
        rw [hgd] at HG3
        have d1 : ¬ (c.toNat : Int) < 48 := by omega
        have d2 : ¬ (57 : Int) < (c.toNat : Int) := by omega
        have w1 : IntKind.u8.wrap ((c.toNat : Int) - 48) = g := by rw [IntKind.wrap_u8]; omega
        clear u1 u2 hno HG2 c1 c2
        by_cases c3 : most < N * 10 + g
        · have e : rnGo most l 0 = none := by rw [HG3.out, if_pos c3]
          have HE := hide e
          have c3 : (most : Int) < (N : Int) * 10 + g := by omega
          clear e
          go_wp2
          go_ret2
          exact ⟨by rw [HE.out]; rfl, rfl⟩
        · have HG4 : Hid (rnGo most l 0 = rnGo most (l.drop (k + 1)) (N * 10 + g)) := by unfold Hid; rw [HG3.out, if_neg c3]
          have c3 : ¬ (most : Int) < (N : Int) * 10 + g := by omega
          clear HG3
          go_wp2
          go_roundw
          case rel => exact ⟨k + 1, N * 10 + g, by omega, by go_num, by go_num, by omega, HG4, by first | rfl | trivial⟩
          case measure => simp [RowKit.intOf]; omega
      · have h8 : k = l.length := by omega
        subst h8
        have e : rnGo most l 0 = some N := by rw [HG.out]; simp [rnGo]
        have HE := hide e
        clear e
        go_wp2
        go_ret2
        exact ⟨by rw [HE.out]; rfl, rfl⟩
  · have h2 : ¬ (1 : Int) < (l.length : Int) := by omega
    clear h1 hi0
    go_enter Tryd.func52, Tryd.ntmps52
    go_wp2
    go_loopw [6, 22] (fun n i wr => ∃ k N : Nat, k ≤ l.length ∧ i = .int .i64 k ∧ n = .int .i64 N ∧ N ≤ 1000 ∧ Hid (rnGo most l 0 = rnGo most (l.drop k) N) ∧ wr = w) (fun _ i _ => l.length - (RowKit.intOf i).toNat)
    case atStart => exact ⟨0, 0, Nat.zero_le _, rfl, rfl, by omega, rfl, rfl⟩
    case round =>
      obtain ⟨k, N, hk, rfl, rfl, hN, HG, hwr⟩ := hrel
      have hwr := hwr.symm
      subst hwr
      by_cases hlt : k < l.length
      · have hd : l.drop k = l[k] :: l.drop (k + 1) := List.drop_eq_getElem_cons hlt
        rw [hd] at HG
        have hix := idx_str l k hlt
        obtain ⟨c, hc⟩ : ∃ c, c = l[k] := ⟨_, rfl⟩
        rw [← hc] at hix HG
        obtain ⟨u1, u2, _⟩ := u8lt c
        have HG2 : Hid (rnGo most l 0 = if c < 48 ∨ 57 < c then none else if most < N * 10 + (c.toNat - 48) then none else rnGo most (l.drop (k + 1)) (N * 10 + (c.toNat - 48))) := HG
        have hb : c.toNat < 256 := c.toNat_lt
        clear hd hc HG
        by_cases c1 : c.toNat < 48
        · have e : rnGo most l 0 = none := by rw [HG2.out, if_pos (.inl (u1.2 c1))]
          have HE := hide e
          have c1 : (c.toNat : Int) < 48 := by omega
          clear e u1 u2
          go_wp2
          go_ret2
          exact ⟨by rw [HE.out]; rfl, rfl⟩
        by_cases c2 : 57 < c.toNat
        · have e : rnGo most l 0 = none := by rw [HG2.out, if_pos (.inr (u2.2 c2))]
          have HE := hide e
          have c1 : ¬ (c.toNat : Int) < 48 := by omega
          have c2 : (57 : Int) < (c.toNat : Int) := by omega
          clear e u1 u2
          go_wp2
          go_ret2
          exact ⟨by rw [HE.out]; rfl, rfl⟩
        have hno : ¬ (c < 48 ∨ 57 < c) := fun h => h.elim (fun h => c1 (u1.1 h)) (fun h => c2 (u2.1 h))
        have HG3 : Hid (rnGo most l 0 = if most < N * 10 + (c.toNat - 48) then none else rnGo most (l.drop (k + 1)) (N * 10 + (c.toNat - 48))) := by unfold Hid; rw [HG2.out, if_neg hno]
        obtain ⟨g, hg⟩ : ∃ g : Nat, (c.toNat : Int) = g + 48 := ⟨c.toNat - 48, by omega⟩
        have hgd : c.toNat - 48 = g := by omega
        rw [hgd] at HG3
        have d1 : ¬ (c.toNat : Int) < 48 := by omega
        have d2 : ¬ (57 : Int) < (c.toNat : Int) := by omega
        have w1 : IntKind.u8.wrap ((c.toNat : Int) - 48) = g := by rw [IntKind.wrap_u8]; omega
        clear u1 u2 hno HG2 c1 c2
        by_cases c3 : most < N * 10 + g
        · have e : rnGo most l 0 = none := by rw [HG3.out, if_pos c3]
          have HE := hide e
          have c3 : (most : Int) < (N : Int) * 10 + g := by omega
          clear e
          go_wp2
          go_ret2
          exact ⟨by rw [HE.out]; rfl, rfl⟩
        · have HG4 : Hid (rnGo most l 0 = rnGo most (l.drop (k + 1)) (N * 10 + g)) := by unfold Hid; rw [HG3.out, if_neg c3]
          have c3 : ¬ (most : Int) < (N : Int) * 10 + g := by omega
          clear HG3
          go_wp2
          go_roundw
          case rel => exact ⟨k + 1, N * 10 + g, by omega, by go_num, by go_num, by omega, HG4, by first | rfl | trivial⟩
          case measure => simp [RowKit.intOf]; omega
      · have h8 : k = l.length := by omega
        subst h8
        have e : rnGo most l 0 = some N := by rw [HG.out]; simp [rnGo]
        have HE := hide e
        clear e
        go_wp2
        go_ret2
        exact ⟨by rw [HE.out]; rfl, rfl⟩
end Go.Proofs.YtkpdbbbeagnjpaaDoor
