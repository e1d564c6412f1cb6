/-
  strings.SplitN at a point, four at most: how many pieces, and where they lie. Condition: a text is no longer than a process can hold.
-/
import Derived.Test.YtkpdbbbeagnjpaaGreatDoorQ18
import Derived.Test.YtkpdbbbeagnjpaaGreatDoorQ16
namespace Go.Proofs.YtkpdbbbeagnjpaaGreatDoor
open Go.RowKit Go.Lib
theorem splitN_three (l p1 p2 p3 l1 l2 l3 : List UInt8) (hl : l.length ≤ 140737488351232) (h1 : cutL 46 l = some (p1, l1)) (h2 : cutL 46 l1 = some (p2, l2)) (h3 : cutL 46 l2 = some (p3, l3)) (w : World) :
    Calls Tryz.prog 88 #[.string ⟨l.toArray⟩, .string ⟨#[46]⟩, .int .i64 4] w fun e w' => e = .returned (.slice (some ⟨w.heap.size, 0, none⟩) 4 4) ∧ w' = w.alloc (.cells #[.string ⟨p1.toArray⟩, .string ⟨p2.toArray⟩, .string ⟨p3.toArray⟩, .string ⟨l3.toArray⟩] 9) := by
  have h := split_three l p1 p2 p3 l1 l2 l3 hl h1 h2 h3 w
  clear h1 h2 h3
  go_enter Tryz.func88, Tryz.ntmps88
  go_wp2_with (go_at_call 98; refine h.mono ?_; rintro e w2 ⟨rfl, hw2⟩; subst hw2)
  go_ret
  exact ⟨rfl, rfl⟩
theorem split_few (l : List UInt8) (hl : l.length ≤ 140737488351232) (hno : ∀ p1 p2 p3 l1 l2 l3, ¬ (cutL 46 l = some (p1, l1) ∧ cutL 46 l1 = some (p2, l2) ∧ cutL 46 l2 = some (p3, l3))) (w : World) :
    Calls Tryz.prog 98 #[.string ⟨l.toArray⟩, .string ⟨#[46]⟩, .int .i64 0, .int .i64 4] w fun e w' => (∃ m c : Nat, e = .returned (.slice (some ⟨w.heap.size, 0, none⟩) m c) ∧ m < 4) ∧ Below w.heap.size w w' := by
  have fin : ∀ (m c : Nat), m < 4 → Calls Tryz.prog 98 #[.string ⟨l.toArray⟩, .string ⟨#[46]⟩, .int .i64 0, .int .i64 4] w (fun e w' => e = .returned (.slice (some ⟨w.heap.size, 0, none⟩) m c) ∧ Below w.heap.size w w') →
      Calls Tryz.prog 98 #[.string ⟨l.toArray⟩, .string ⟨#[46]⟩, .int .i64 0, .int .i64 4] w fun e w' => (∃ m c : Nat, e = .returned (.slice (some ⟨w.heap.size, 0, none⟩) m c) ∧ m < 4) ∧ Below w.heap.size w w' :=
    fun m c hm h => h.mono fun _ _ h => ⟨⟨m, c, h.1, hm⟩, h.2⟩
  cases e1 : cutL 46 l with
  | none =>
    rcases Nat.lt_or_ge l.length 3 with h | h
    · rcases (show l.length = 0 ∨ l.length = 1 ∨ l.length = 2 by omega) with h | h | h
      · exact fin 1 1 (by decide) (split_1_0 l hl (by omega) w)
      · exact fin 1 2 (by decide) (split_2_0 l hl (by omega) e1 w)
      · exact fin 1 3 (by decide) (split_3_0 l hl (by omega) e1 w)
    · exact fin 1 4 (by decide) (split_4_0 l hl (by omega) e1 w)
  | some x1 =>
    obtain ⟨p1, l1⟩ := x1
    have c1 := cut_len e1
    cases e2 : cutL 46 l1 with
    | none =>
      rcases Nat.lt_or_ge l.length 3 with h | h
      · rcases (show l.length = 1 ∨ l.length = 2 by omega) with h | h
        · exact fin 2 2 (by decide) (split_2_1 l p1 l1 hl (by omega) e1 w)
        · exact fin 2 3 (by decide) (split_3_1 l p1 l1 hl (by omega) e1 e2 w)
      · exact fin 2 4 (by decide) (split_4_1 l p1 l1 hl (by omega) e1 e2 w)
    | some x2 =>
      obtain ⟨p2, l2⟩ := x2
      have c2 := cut_len e2
      cases e3 : cutL 46 l2 with
      | none =>
        rcases Nat.lt_or_ge l.length 3 with h | h
        · exact fin 3 3 (by decide) (split_3_2 l p1 l1 p2 l2 hl (by omega) e1 e2 w)
        · exact fin 3 4 (by decide) (split_4_2 l p1 l1 p2 l2 hl (by omega) e1 e2 e3 w)
      | some x3 => exact absurd ⟨e1, e2, e3⟩ (hno p1 p2 x3.1 l1 l2 x3.2)
theorem splitN_few (l : List UInt8) (hl : l.length ≤ 140737488351232) (hno : ∀ p1 p2 p3 l1 l2 l3, ¬ (cutL 46 l = some (p1, l1) ∧ cutL 46 l1 = some (p2, l2) ∧ cutL 46 l2 = some (p3, l3))) (w : World) :
    Calls Tryz.prog 88 #[.string ⟨l.toArray⟩, .string ⟨#[46]⟩, .int .i64 4] w fun e w' => (∃ m c : Nat, e = .returned (.slice (some ⟨w.heap.size, 0, none⟩) m c) ∧ m < 4) ∧ Below w.heap.size w w' := by
  have h := split_few l hl hno w
  clear hno
  go_enter Tryz.func88, Tryz.ntmps88
  go_wp2_with (go_at_call 98; refine h.mono ?_; rintro e w2 ⟨⟨m, c, rfl, hm⟩, x2⟩; have X2 := hide x2; clear x2)
  go_ret
  exact ⟨⟨m, c, rfl, hm⟩, X2.out⟩
end Go.Proofs.YtkpdbbbeagnjpaaGreatDoor
/-
  readNumber by its contract. Condition: a text is no longer than a process can hold.
-/
namespace Go.Proofs.YtkpdbbbeagnjpaaGreatDoor
open Go.RowKit Go.Lib

theorem idx_str (l : List UInt8) (k : Nat) (hk : k < l.length) : ((⟨l.toArray⟩ : ByteArray)[k]'hk) = l[k] := by
  simp [ByteArray.getElem_eq_getElem_data]
theorem u8lt (c : UInt8) : (c < 48 ↔ c.toNat < 48) ∧ (57 < c ↔ 57 < c.toNat) ∧ (c = 48 ↔ c.toNat = 48) :=
  ⟨UInt8.lt_iff_toNat_lt, UInt8.lt_iff_toNat_lt, UInt8.toNat_inj.symm⟩
set_option maxRecDepth 100000 in
set_option maxHeartbeats 4000000 in
theorem readNumber_any (l : List UInt8) (most : Nat) (hm : most ≤ 1000) (hl : l.length ≤ 140737488351232) (w : World) :
    Calls Tryz.prog 77 #[.string ⟨l.toArray⟩, .int .i64 most] w fun e w' => e = .returned (.tuple #[.int .i64 (((rn l most).getD 0 : Nat) : Int), .bool (rn l most).isSome]) ∧ w' = w := by
  by_cases h0 : l = []
  · have e : rn l most = none := if_pos (.inl h0)
    rw [e]
    subst h0
    clear e
    go_enter Tryz.func77, Tryz.ntmps77
    go_wp2
    go_ret2
    exact ⟨rfl, rfl⟩
  have hpos : 0 < l.length := List.length_pos_iff.2 h0
  have hemp : l.isEmpty = false := by simpa using h0
  have hi0 := idx_str l 0 hpos
  by_cases h1 : 1 < l.length ∧ l.getD 0 0 = 48
  · have e : rn l most = none := if_pos (.inr h1)
    rw [e]
    have e2 : ((⟨l.toArray⟩ : ByteArray)[0]'hpos).toNat = 48 := by
      rw [hi0]
      have := h1.2
      simp [List.getD_eq_getElem?_getD, hpos] at this
      rw [this]; rfl
    have h2 : (1 : Int) < (l.length : Int) := by omega
    clear e h1 hi0
    go_enter Tryz.func77, Tryz.ntmps77
    go_wp2
    go_ret2
    exact ⟨rfl, rfl⟩
  have e : rn l most = rnGo most l 0 := if_neg (fun h => h.elim h0 h1)
  rw [e]
  clear e
  by_cases h2 : 1 < l.length
  · have e2 : ((((⟨l.toArray⟩ : ByteArray)[0]'hpos).toNat : Int) == 48) = false := by
      have hx : ¬ l[0] = 48 := fun h => h1 ⟨h2, by simpa [List.getD_eq_getElem?_getD, hpos] using h⟩
      rw [hi0, beq_eq_false_iff_ne]
      intro h
      exact hx ((u8lt _).2.2.2 (by omega))
    have h2 : (1 : Int) < (l.length : Int) := by omega
    clear h1 hi0
    go_enter Tryz.func77, Tryz.ntmps77
    go_wp2
    go_loopw [6, 22] (fun n i wr => ∃ k N : Nat, k ≤ l.length ∧ i = .int .i64 k ∧ n = .int .i64 N ∧ N ≤ 1000 ∧ Hid (rnGo most l 0 = rnGo most (l.drop k) N) ∧ wr = w) (fun _ i _ => l.length - (RowKit.intOf i).toNat)
    case atStart => exact ⟨0, 0, Nat.zero_le _, rfl, rfl, by omega, rfl, rfl⟩
    case round =>
      obtain ⟨k, N, hk, rfl, rfl, hN, HG, hwr⟩ := hrel
      have hwr := hwr.symm
      subst hwr
      by_cases hlt : k < l.length
      · have hd : l.drop k = l[k] :: l.drop (k + 1) := List.drop_eq_getElem_cons hlt
        rw [hd] at HG
        have hix := idx_str l k hlt
        obtain ⟨c, hc⟩ : ∃ c, c = l[k] := ⟨_, rfl⟩
        rw [← hc] at hix HG
        obtain ⟨u1, u2, _⟩ := u8lt c
        have HG2 : Hid (rnGo most l 0 = if c < 48 ∨ 57 < c then none else if most < N * 10 + (c.toNat - 48) then none else rnGo most (l.drop (k + 1)) (N * 10 + (c.toNat - 48))) := HG
        have hb : c.toNat < 256 := c.toNat_lt
        clear hd hc HG
        by_cases c1 : c.toNat < 48
        · have e : rnGo most l 0 = none := by rw [HG2.out, if_pos (.inl (u1.2 c1))]
          have HE := hide e
          have c1 : (c.toNat : Int) < 48 := by omega
          clear e u1 u2
          go_wp2
          go_ret2
          exact ⟨by rw [HE.out]; rfl, rfl⟩
        by_cases c2 : 57 < c.toNat
        · have e : rnGo most l 0 = none := by rw [HG2.out, if_pos (.inr (u2.2 c2))]
          have HE := hide e
          have c1 : ¬ (c.toNat : Int) < 48 := by omega
          have c2 : (57 : Int) < (c.toNat : Int) := by omega
          clear e u1 u2
          go_wp2
          go_ret2
          exact ⟨by rw [HE.out]; rfl, rfl⟩
        have hno : ¬ (c < 48 ∨ 57 < c) := fun h => h.elim (fun h => c1 (u1.1 h)) (fun h => c2 (u2.1 h))
        have HG3 : Hid (rnGo most l 0 = if most < N * 10 + (c.toNat - 48) then none else rnGo most (l.drop (k + 1)) (N * 10 + (c.toNat - 48))) := by unfold Hid; rw [HG2.out, if_neg hno]
        obtain ⟨g, hg⟩ : ∃ g : Nat, (c.toNat : Int) = g + 48 := ⟨c.toNat - 48, by omega⟩
        have hgd : c.toNat - 48 = g := by omega
        rw [hgd] at HG3
        have d1 : ¬ (c.toNat : Int) < 48 := by omega
        have d2 : ¬ (57 : Int) < (c.toNat : Int) := by omega
        have w1 : IntKind.u8.wrap ((c.toNat : Int) - 48) = g := by rw [IntKind.wrap_u8]; omega
        clear u1 u2 hno HG2 c1 c2
        by_cases c3 : most < N * 10 + g
        · have e : rnGo most l 0 = none := by rw [HG3.out, if_pos c3]
          have HE := hide e
          have c3 : (most : Int) < (N : Int) * 10 + g := by omega
          clear e
          go_wp2
          go_ret2
          exact ⟨by rw [HE.out]; rfl, rfl⟩
        · have HG4 : Hid (rnGo most l 0 = rnGo most (l.drop (k + 1)) (N * 10 + g)) := by unfold Hid; rw [HG3.out, if_neg c3]
          have c3 : ¬ (most : Int) < (N : Int) * 10 + g := by omega
          clear HG3
          go_wp2
          go_roundw
          case rel => exact ⟨k + 1, N * 10 + g, by omega, by go_num, by go_num, by omega, HG4, by first | rfl | trivial⟩
          case measure => simp [RowKit.intOf]; omega
      · have h8 : k = l.length := by omega
        subst h8
        have e : rnGo most l 0 = some N := by rw [HG.out]; simp [rnGo]
        have HE := hide e
        clear e
        go_wp2
        go_ret2
        exact ⟨by rw [HE.out]; rfl, rfl⟩
  · have h2 : ¬ (1 : Int) < (l.length : Int) := by omega
    clear h1 hi0
    go_enter Tryz.func77, Tryz.ntmps77
    go_wp2
    go_loopw [6, 22] (fun n i wr => ∃ k N : Nat, k ≤ l.length ∧ i = .int .i64 k ∧ n = .int .i64 N ∧ N ≤ 1000 ∧ Hid (rnGo most l 0 = rnGo most (l.drop k) N) ∧ wr = w) (fun _ i _ => l.length - (RowKit.intOf i).toNat)
    case atStart => exact ⟨0, 0, Nat.zero_le _, rfl, rfl, by omega, rfl, rfl⟩
    case round =>
      obtain ⟨k, N, hk, rfl, rfl, hN, HG, hwr⟩ := hrel
      have hwr := hwr.symm
      subst hwr
      by_cases hlt : k < l.length
      · have hd : l.drop k = l[k] :: l.drop (k + 1) := List.drop_eq_getElem_cons hlt
        rw [hd] at HG
        have hix := idx_str l k hlt
        obtain ⟨c, hc⟩ : ∃ c, c = l[k] := ⟨_, rfl⟩
        rw [← hc] at hix HG
        obtain ⟨u1, u2, _⟩ := u8lt c
        have HG2 : Hid (rnGo most l 0 = if c < 48 ∨ 57 < c then none else if most < N * 10 + (c.toNat - 48) then none else rnGo most (l.drop (k + 1)) (N * 10 + (c.toNat - 48))) := HG
        have hb : c.toNat < 256 := c.toNat_lt
        clear hd hc HG
        by_cases c1 : c.toNat < 48
        · have e : rnGo most l 0 = none := by rw [HG2.out, if_pos (.inl (u1.2 c1))]
          have HE := hide e
          have c1 : (c.toNat : Int) < 48 := by omega
          clear e u1 u2
          go_wp2
          go_ret2
          exact ⟨by rw [HE.out]; rfl, rfl⟩
        by_cases c2 : 57 < c.toNat
        · have e : rnGo most l 0 = none := by rw [HG2.out, if_pos (.inr (u2.2 c2))]
          have HE := hide e
          have c1 : ¬ (c.toNat : Int) < 48 := by omega
          have c2 : (57 : Int) < (c.toNat : Int) := by omega
          clear e u1 u2
          go_wp2
          go_ret2
          exact ⟨by rw [HE.out]; rfl, rfl⟩
        have hno : ¬ (c < 48 ∨ 57 < c) := fun h => h.elim (fun h => c1 (u1.1 h)) (fun h => c2 (u2.1 h))
        have HG3 : Hid (rnGo most l 0 = if most < N * 10 + (c.toNat - 48) then none else rnGo most (l.drop (k + 1)) (N * 10 + (c.toNat - 48))) := by unfold Hid; rw [HG2.out, if_neg hno]
        obtain ⟨g, hg⟩ : ∃ g : Nat, (c.toNat : Int) = g + 48 := ⟨c.toNat - 48, by omega⟩
        have hgd : c.toNat - 48 = g := by omega
        rw [hgd] at HG3
        have d1 : ¬ (c.toNat : Int) < 48 := by omega
        have d2 : ¬ (57 : Int) < (c.toNat : Int) := by omega
        have w1 : IntKind.u8.wrap ((c.toNat : Int) - 48) = g := by rw [IntKind.wrap_u8]; omega
        clear u1 u2 hno HG2 c1 c2
        by_cases c3 : most < N * 10 + g
        · have e : rnGo most l 0 = none := by rw [HG3.out, if_pos c3]
          have HE := hide e
          have c3 : (most : Int) < (N : Int) * 10 + g := by omega
          clear e
          go_wp2
          go_ret2
          exact ⟨by rw [HE.out]; rfl, rfl⟩
        · have HG4 : Hid (rnGo most l 0 = rnGo most (l.drop (k + 1)) (N * 10 + g)) := by unfold Hid; rw [HG3.out, if_neg c3]
          have c3 : ¬ (most : Int) < (N : Int) * 10 + g := by omega
          clear HG3
          go_wp2
          go_roundw
          case rel => exact ⟨k + 1, N * 10 + g, by omega, by go_num, by go_num, by omega, HG4, by first | rfl | trivial⟩
          case measure => simp [RowKit.intOf]; omega
      · have h8 : k = l.length := by omega
        subst h8
        have e : rnGo most l 0 = some N := by rw [HG.out]; simp [rnGo]
        have HE := hide e
        clear e
        go_wp2
        go_ret2
        exact ⟨by rw [HE.out]; rfl, rfl⟩
end Go.Proofs.YtkpdbbbeagnjpaaGreatDoor
