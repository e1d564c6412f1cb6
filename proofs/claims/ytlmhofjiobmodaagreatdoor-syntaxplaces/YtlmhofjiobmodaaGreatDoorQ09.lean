/-
  The reader: the words of kinds; which kind begins at the next token; ports. By their contracts. No condition.
-/
import Derived.Test.YtlmhofjiobmodaaGreatDoorQ05
import Derived.Test.YtlmhofjiobmodaaGreatDoorQ08
import Derived.Test.YtlmhofjiobmodaaGreatDoorQ04
namespace Go.Proofs.YtlmhofjiobmodaaGreatDoor
open Go.RowKit Go.Lib

set_option maxRecDepth 100000 in
set_option maxHeartbeats 2000000 in
theorem tWord_any (k : Nat) (h1 : 1 ≤ k) (h2 : k ≤ 12) (w : World) : Calls Tryz.prog 166 #[.int .i64 (k : Nat)] w fun e w' => e = .returned (.string ⟨(tWord k).toArray⟩) ∧ w' = w := by
  rcases k with _ | _ | _ | _ | _ | _ | _ | _ | _ | _ | _ | _ | _ | k
  all_goals first | (exfalso; omega) | skip
  all_goals
    clear h1 h2
    try simp only [Nat.zero_add, Nat.reduceAdd]
    go_enter Tryz.func166, Tryz.ntmps166
    go_wp2
    go_ret
    exact ⟨rfl, rfl⟩
set_option maxRecDepth 100000 in
theorem iWord_any (k : Nat) (h1 : 1 ≤ k) (h2 : k ≤ 3) (w : World) : Calls Tryz.prog 73 #[.int .i64 (k : Nat)] w fun e w' => e = .returned (.string ⟨(iWord k).toArray⟩) ∧ w' = w := by
  rcases k with _ | _ | _ | _ | k
  all_goals first | (exfalso; omega) | skip
  all_goals
    clear h1 h2
    try simp only [Nat.zero_add, Nat.reduceAdd]
    go_enter Tryz.func73, Tryz.ntmps73
    go_wp2
    go_ret
    exact ⟨rfl, rfl⟩
set_option maxRecDepth 100000 in
set_option maxHeartbeats 1000000 in
theorem testKind_any {w : World} {base rp g cap : Nat} {Ts : List Tk} {i : Nat} (h : RdA w base rp g cap Ts i) : Calls Tryz.prog 144 #[.pointer (some ⟨rp, 0, none⟩)] w fun e w' => e = .returned (.int .i64 (testAt Ts i : Nat)) ∧ Below w.heap.size w w' := by
  have HR := hide h
  clear h
  go_enter Tryz.func144, Tryz.ntmps144
  go_wp2
  go_loopw [3] (fun x wr => ∃ k : Nat, 1 ≤ k ∧ k ≤ 13 ∧ x = .int .i64 k ∧ Hid (testAt Ts i = kindAt Ts tWord i (13 - k) k) ∧ Hid (Below w.heap.size w wr)) (fun x _ => 13 - (RowKit.intOf x).toNat)
  case atStart => exact ⟨1, Nat.le_refl _, by decide, rfl, rfl, Below.refl _ _⟩
  case round =>
    obtain ⟨k, hk1, hk2, rfl, HK, HX⟩ := hrel
    by_cases hk : k ≤ 12
    · have hk' : (k : Int) ≤ 12 := by omega
      have HW := hide (tWord_any k hk1 hk wr)
      have HI := hide (isWord_any' (HR.out.below HX.out) (tWord k))
      have HKK : Hid (kindAt Ts tWord i (13 - k) k = if isT Ts 1 (tWord k) i = true then k else kindAt Ts tWord i (13 - (k + 1)) (k + 1)) := by
        unfold Hid
        rw [show 13 - k = (13 - (k + 1)) + 1 by omega, kindAt]
      generalize tWord k = t at *
      cases hb : isT Ts 1 t i with
      | true =>
        rw [hb] at HI HKK
        go_wp2_with (first
          | (go_at_call 166; refine HW.out.mono ?_; rintro e wz ⟨rfl, hwz⟩; have hwz := hwz.symm; subst hwz)
          | (go_at_call 72; refine HI.out.mono ?_; rintro e w1 ⟨rfl, x1⟩; have X1 := hide (HX.out.trans (x1.mono HX.out.size)); clear x1))
        go_ret
        exact ⟨by rw [HK.out, HKK.out]; simp, X1.out⟩
      | false =>
        rw [hb] at HI HKK
        go_wp2_with (first
          | (go_at_call 166; refine HW.out.mono ?_; rintro e wz ⟨rfl, hwz⟩; have hwz := hwz.symm; subst hwz)
          | (go_at_call 72; refine HI.out.mono ?_; rintro e w1 ⟨rfl, x1⟩; have X1 := hide (HX.out.trans (x1.mono HX.out.size)); clear x1))
        go_roundw
        case rel => exact ⟨k + 1, by omega, by omega, by go_num, by unfold Hid; rw [HK.out, HKK.out]; simp, X1⟩
        case measure => simp [RowKit.intOf]; omega
    · have hk' : ¬ (k : Int) ≤ 12 := by omega
      have hke : k = 13 := by omega
      go_wp2
      go_ret
      exact ⟨by rw [HK.out, hke]; rfl, HX.out⟩
set_option maxRecDepth 100000 in
set_option maxHeartbeats 1000000 in
theorem itemKind_any {w : World} {base rp g cap : Nat} {Ts : List Tk} {i : Nat} (h : RdA w base rp g cap Ts i) : Calls Tryz.prog 51 #[.pointer (some ⟨rp, 0, none⟩)] w fun e w' => (itemAt Ts i ≠ 0 → e = .returned (.int .i64 (itemAt Ts i : Nat))) ∧ (itemAt Ts i = 0 → e = pan 90 (tok Ts i).p) ∧ Below w.heap.size w w' := by
  have HR := hide h
  clear h
  go_enter Tryz.func51, Tryz.ntmps51
  go_wp2
  go_loopw [3] (fun x wr => ∃ k : Nat, 1 ≤ k ∧ k ≤ 4 ∧ x = .int .i64 k ∧ Hid (itemAt Ts i = kindAt Ts iWord i (4 - k) k) ∧ Hid (Below w.heap.size w wr)) (fun x _ => 4 - (RowKit.intOf x).toNat)
  case atStart => exact ⟨1, Nat.le_refl _, by decide, rfl, rfl, Below.refl _ _⟩
  case round =>
    obtain ⟨k, hk1, hk2, rfl, HK, HX⟩ := hrel
    by_cases hk : k ≤ 3
    · have hk' : (k : Int) ≤ 3 := by omega
      have HW := hide (iWord_any k hk1 hk wr)
      have HI := hide (isWord_any' (HR.out.below HX.out) (iWord k))
      have HKK : Hid (kindAt Ts iWord i (4 - k) k = if isT Ts 1 (iWord k) i = true then k else kindAt Ts iWord i (4 - (k + 1)) (k + 1)) := by
        unfold Hid
        rw [show 4 - k = (4 - (k + 1)) + 1 by omega, kindAt]
      generalize iWord k = t at *
      cases hb : isT Ts 1 t i with
      | true =>
        rw [hb] at HI HKK
        go_wp2_with (first
          | (go_at_call 73; refine HW.out.mono ?_; rintro e wz ⟨rfl, hwz⟩; have hwz := hwz.symm; subst hwz)
          | (go_at_call 72; refine HI.out.mono ?_; rintro e w1 ⟨rfl, x1⟩; have X1 := hide (HX.out.trans (x1.mono HX.out.size)); clear x1))
        go_ret
        have e : itemAt Ts i = k := by rw [HK.out, HKK.out]; simp
        exact ⟨fun _ => by rw [e]; rfl, fun h => by omega, X1.out⟩
      | false =>
        rw [hb] at HI HKK
        go_wp2_with (first
          | (go_at_call 73; refine HW.out.mono ?_; rintro e wz ⟨rfl, hwz⟩; have hwz := hwz.symm; subst hwz)
          | (go_at_call 72; refine HI.out.mono ?_; rintro e w1 ⟨rfl, x1⟩; have X1 := hide (HX.out.trans (x1.mono HX.out.size)); clear x1))
        go_roundw
        case rel => exact ⟨k + 1, by omega, by omega, by go_num, by unfold Hid; rw [HK.out, HKK.out]; simp, X1⟩
        case measure => simp [RowKit.intOf]; omega
    · have hk' : ¬ (k : Int) ≤ 3 := by omega
      have hke : k = 4 := by omega
      have HRF := hide (refuse_any (HR.out.below HX.out) 90)
      have HE : Hid (itemAt Ts i = 0) := by unfold Hid; rw [HK.out, hke]; rfl
      go_wp2_with (go_at_call 52; refine HRF.out.mono ?_; rintro e w3 ⟨he, x3⟩; unfold pan at he; subst he; have X3 := hide (HX.out.trans (x3.mono HX.out.size)); clear x3)
      exact ⟨rfl, fun h => absurd HE.out h, fun _ => rfl, X3.out⟩
set_option maxRecDepth 100000 in
set_option maxHeartbeats 1000000 in
theorem begins_any {w : World} {base rp g cap : Nat} {Ts : List Tk} {i : Nat} (h : RdA w base rp g cap Ts i) : Calls Tryz.prog 147 #[.pointer (some ⟨rp, 0, none⟩)] w fun e w' => e = .returned (.bool (begP Ts i)) ∧ Below w.heap.size w w' := by
  have hf := fld0
  have HT := hide (token_any h)
  have HS := hide (fun V (x : Below w.heap.size w V) => isSgn_any (h.below x) [40])
  have HW := hide (fun V (x : Below w.heap.size w V) => isWord_any' (h.below x) wNot)
  have HK := hide (fun V (x : Below w.heap.size w V) => testKind_any (h.below x))
  have HB : Hid (begP Ts i = ((tok Ts i).k == 2 || isT Ts 7 [40] i || isT Ts 1 wNot i || testAt Ts i != 0)) := rfl
  have hwn : (⟨wNot.toArray⟩ : ByteArray) = ⟨#[110, 111, 116]⟩ := rfl
  rw [hwn] at HW
  unfold tkV at HT
  generalize tok Ts i = z at *
  generalize isT Ts 7 [40] i = b1 at *
  generalize isT Ts 1 wNot i = b2 at *
  clear h hwn
  by_cases hk : z.k = 2
  · have hkk : (z.k == 2) = true := by simpa using hk
    go_enter Tryz.func147, Tryz.ntmps147
    go_wp2_with (go_at_call 50; refine HT.out.mono ?_; rintro e w1 ⟨rfl, x1⟩; have X1 := hide x1; clear x1)
    go_ret
    exact ⟨by rw [HB.out, hkk]; rfl, X1.out⟩
  · have hkk : (z.k == 2) = false := by simpa using hk
    cases b1 with
    | true =>
      go_enter Tryz.func147, Tryz.ntmps147
      go_wp2_with (first
        | (go_at_call 50; refine HT.out.mono ?_; rintro e w1 ⟨rfl, x1⟩; have X1 := hide x1; clear x1)
        | (go_at_call 143; refine (HS.out _ X1.out).mono ?_; rintro e w2 ⟨rfl, x2⟩; have X2 := hide (bt X1.out x2 (Nat.le_refl _)); clear x2))
      go_ret
      exact ⟨by rw [HB.out, hkk]; rfl, X2.out⟩
    | false =>
      cases b2 with
      | true =>
        go_enter Tryz.func147, Tryz.ntmps147
        go_wp2_with (first
          | (go_at_call 50; refine HT.out.mono ?_; rintro e w1 ⟨rfl, x1⟩; have X1 := hide x1; clear x1)
          | (go_at_call 143; refine (HS.out _ X1.out).mono ?_; rintro e w2 ⟨rfl, x2⟩; have X2 := hide (bt X1.out x2 (Nat.le_refl _)); clear x2)
          | (go_at_call 72; refine (HW.out _ X2.out).mono ?_; rintro e w3 ⟨rfl, x3⟩; have X3 := hide (bt X2.out x3 (Nat.le_refl _)); clear x3))
        go_ret
        exact ⟨by rw [HB.out, hkk]; rfl, X3.out⟩
      | false =>
        have hne : (((testAt Ts i : Nat) : Int) != 0) = (testAt Ts i != 0) := by
          rw [Bool.eq_iff_iff]; simp
        generalize testAt Ts i = m at *
        go_enter Tryz.func147, Tryz.ntmps147
        go_wp2_with (first
          | (go_at_call 50; refine HT.out.mono ?_; rintro e w1 ⟨rfl, x1⟩; have X1 := hide x1; clear x1)
          | (go_at_call 143; refine (HS.out _ X1.out).mono ?_; rintro e w2 ⟨rfl, x2⟩; have X2 := hide (bt X1.out x2 (Nat.le_refl _)); clear x2)
          | (go_at_call 72; refine (HW.out _ X2.out).mono ?_; rintro e w3 ⟨rfl, x3⟩; have X3 := hide (bt X2.out x3 (Nat.le_refl _)); clear x3)
          | (go_at_call 144; refine (HK.out _ X3.out).mono ?_; rintro e w4 ⟨rfl, x4⟩; have X4 := hide (bt X3.out x4 (Nat.le_refl _)); clear x4))
        go_ret
        exact ⟨by rw [HB.out, hkk]; simp, X4.out⟩
end Go.Proofs.YtlmhofjiobmodaaGreatDoor
/-
  Conditions in memory: each list in a block of its own. No condition.
-/
namespace Go.Proofs.YtlmhofjiobmodaaGreatDoor
open Go.RowKit Go.Lib

def prC (L : List (Int × Int)) : List Value := L.flatMap fun x => [.int .i64 x.1, .int .i64 x.2]
theorem prC_snoc (L : List (Int × Int)) (x : Int × Int) : prC (L ++ [x]) = prC L ++ [.int .i64 x.1, .int .i64 x.2] := by simp [prC]
def nsC (L : List By) : List Value := L.map fun x => .string ⟨x.toArray⟩
theorem nsC_snoc (L : List By) (x : By) : nsC (L ++ [x]) = nsC L ++ [.string ⟨x.toArray⟩] := by simp [nsC]
/-- The block of a list. -/
def blk (v : Value) : List Nat := match v.ownBlock with
  | some k => [k]
  | none => []
theorem mem_blk {v : Value} {k : Nat} : k ∈ blk v ↔ v.ownBlock = some k := by
  unfold blk
  cases h : v.ownBlock with
  | none => simp
  | some j =>
    simp
    exact ⟨fun e => e.symm, fun e => e.symm⟩
/-- The eight cells of a condition, its lists' blocks. -/
def CtAt (w : World) (base : Nat) : CT → List Value → List Nat → Prop
  | .mk k nm tx pre sp ns kids p, vs, bs => ∃ v3 v4 v5 v6 cs ks, vs = [.int .i64 k, .string ⟨nm.toArray⟩, .string ⟨tx.toArray⟩, v3, v4, v5, v6, .int .i64 p] ∧ w.ownsRow base 47 2 v3 pre.length (prC pre) ∧ w.ownsRow base 68 2 v4 sp.length (prC sp) ∧ w.ownsRow base 9 1 v5 ns.length (nsC ns) ∧ w.ownsRow base 60 8 v6 kids.length cs ∧ kidsAt kids cs ks ∧ bs = blk v3 ++ (blk v4 ++ (blk v5 ++ (blk v6 ++ ks)))
where kidsAt : List CT → List Value → List Nat → Prop
  | [], cs, ks => cs = [] ∧ ks = []
  | c :: l, cs, ks => ∃ vs bs cs' ks', cs = vs ++ cs' ∧ ks = bs ++ ks' ∧ CtAt w base c vs bs ∧ kidsAt l cs' ks'
abbrev KidsAt := CtAt.kidsAt
theorem CtAt.len {w : World} {base : Nat} {c : CT} {vs : List Value} {bs : List Nat} (h : CtAt w base c vs bs) : vs.length = 8 := by
  cases c with
  | mk k nm tx pre sp ns kids p =>
    unfold CtAt at h
    obtain ⟨v3, v4, v5, v6, cs, ks, h1, _⟩ := h
    rw [h1]; rfl
mutual
theorem CtAt.kept {F : Nat → Prop} {w w' : World} {base : Nat} (hk : Kept F w w') : ∀ (c : CT) (vs : List Value) (bs : List Nat), CtAt w base c vs bs → (∀ k ∈ bs, ¬ F k) → CtAt w' base c vs bs
  | .mk k nm tx pre sp ns kids p, vs, bs, h, hF => by
    unfold CtAt at h ⊢
    obtain ⟨v3, v4, v5, v6, cs, ks, h1, h2, h3, h4, h5, h6, h7⟩ := h
    refine ⟨v3, v4, v5, v6, cs, ks, h1, own_kept h2 hk (fun j hj => hF j ?_), own_kept h3 hk (fun j hj => hF j ?_), own_kept h4 hk (fun j hj => hF j ?_), own_kept h5 hk (fun j hj => hF j ?_), KidsAt.kept hk kids cs ks h6 (fun j hj => hF j ?_), h7⟩
    all_goals
      rw [h7]
      simp only [List.mem_append, mem_blk]
      simp [hj]
theorem KidsAt.kept {F : Nat → Prop} {w w' : World} {base : Nat} (hk : Kept F w w') : ∀ (l : List CT) (cs : List Value) (ks : List Nat), KidsAt w base l cs ks → (∀ k ∈ ks, ¬ F k) → KidsAt w' base l cs ks
  | [], cs, ks, h, _ => h
  | c :: l, cs, ks, h, hF => by
    obtain ⟨vs, bs, cs', ks', h1, h2, h3, h4⟩ := h
    refine ⟨vs, bs, cs', ks', h1, h2, CtAt.kept hk c vs bs h3 (fun j hj => hF j ?_), KidsAt.kept hk l cs' ks' h4 (fun j hj => hF j ?_)⟩
    all_goals
      rw [h2]
      simp [hj]
end
theorem CtAt.below {w w' : World} {base : Nat} {c : CT} {vs : List Value} {bs : List Nat} (h : CtAt w base c vs bs) (x : Below w.heap.size w w') : CtAt w' base c vs bs :=
  CtAt.kept (F := fun _ => False) (Kept.of_below x) c vs bs h (fun _ _ h => h)
theorem KidsAt.below {w w' : World} {base : Nat} {l : List CT} {cs : List Value} {ks : List Nat} (h : KidsAt w base l cs ks) (x : Below w.heap.size w w') : KidsAt w' base l cs ks :=
  KidsAt.kept (F := fun _ => False) (Kept.of_below x) l cs ks h (fun _ _ h => h)
theorem KidsAt.snoc {w : World} {base : Nat} : ∀ {l : List CT} {cs : List Value} {ks : List Nat} {c : CT} {vs : List Value} {bs : List Nat}, KidsAt w base l cs ks → CtAt w base c vs bs → KidsAt w base (l ++ [c]) (cs ++ vs) (ks ++ bs)
  | [], cs, ks, c, vs, bs, h, hc => by
    obtain ⟨rfl, rfl⟩ := h
    exact ⟨vs, bs, [], [], by simp, by simp, hc, rfl, rfl⟩
  | d :: l, cs, ks, c, vs, bs, h, hc => by
    obtain ⟨vs', bs', cs', ks', h1, h2, h3, h4⟩ := h
    exact ⟨vs', bs', cs' ++ vs, ks' ++ bs, by rw [h1, List.append_assoc], by rw [h2, List.append_assoc], h3, KidsAt.snoc h4 hc⟩
mutual
theorem CtAt.lt {w : World} {base : Nat} : ∀ {c : CT} {vs : List Value} {bs : List Nat}, CtAt w base c vs bs → ∀ k ∈ bs, base ≤ k ∧ k < w.heap.size
  | .mk k nm tx pre sp ns kids p, vs, bs, h => by
    unfold CtAt at h
    obtain ⟨v3, v4, v5, v6, cs, ks, h1, h2, h3, h4, h5, h6, h7⟩ := h
    intro j hj
    rw [h7] at hj
    simp only [List.mem_append, mem_blk] at hj
    rcases hj with hj | hj | hj | hj | hj
    · exact World.ownsRow.lt h2 j hj
    · exact World.ownsRow.lt h3 j hj
    · exact World.ownsRow.lt h4 j hj
    · exact World.ownsRow.lt h5 j hj
    · exact KidsAt.lt h6 j hj
theorem KidsAt.lt {w : World} {base : Nat} : ∀ {l : List CT} {cs : List Value} {ks : List Nat}, KidsAt w base l cs ks → ∀ k ∈ ks, base ≤ k ∧ k < w.heap.size
  | [], cs, ks, h => by
    obtain ⟨_, rfl⟩ := h
    intro k hk
    cases hk
  | c :: l, cs, ks, h => by
    obtain ⟨vs, bs, cs', ks', h1, h2, h3, h4⟩ := h
    intro k hk
    rw [h2, List.mem_append] at hk
    rcases hk with hk | hk
    · exact CtAt.lt h3 k hk
    · exact KidsAt.lt h4 k hk
end
end Go.Proofs.YtlmhofjiobmodaaGreatDoor
/-
  The writer's number, ports, and what it does with each span, where they go well. Condition: the numbers are 1, 9, 80.
-/
namespace Go.Proofs.YtlmhofjiobmodaaGreatDoor
open Go.RowKit Go.Lib

def Dg3 (n : Int) : Prop := n = 1 ∨ n = 9 ∨ n = 80
def dg3 (n : Int) : By := if n = 1 then [49] else if n = 9 then [57] else [56, 48]
def numW (n : Int) (s : WS) : Option WS := othW (dg3 n) s
def spnW (x : Int × Int) (s : WS) : Option WS := (numW x.1 s).bind fun y => if x.2 = x.1 then some y else (othW [45] y).bind fun z => numW x.2 z
set_option maxRecDepth 100000 in
theorem small_any {n : Int} (hn : Dg3 n) (w : World) : Calls Tryz.prog 239 #[.int .i64 n] w fun e w' => e = .returned (.string ⟨(dg3 n).toArray⟩) ∧ Below w.heap.size w w' := by
  rcases hn with rfl | rfl | rfl
  all_goals
    go_enter Tryz.func239, Tryz.ntmps239
    go_wp2
    go_ret
    exact ⟨rfl, Below.refl _ _⟩
set_option maxRecDepth 100000 in
theorem format_any {n : Int} (hn : Dg3 n) (w : World) : Calls Tryz.prog 235 #[.int .i64 n, .int .i64 10] w fun e w' => e = .returned (.string ⟨(dg3 n).toArray⟩) ∧ Below w.heap.size w w' := by
  have HS := hide (small_any hn w)
  have h1 : 0 ≤ n := by rcases hn with h | h | h <;> omega
  have h2 : n < 100 := by rcases hn with h | h | h <;> omega
  clear hn
  go_enter Tryz.func235, Tryz.ntmps235
  go_wp2_with (go_at_call 239; refine HS.out.mono ?_; rintro e w1 ⟨rfl, x1⟩; have X1 := hide x1; clear x1)
  go_ret
  exact ⟨rfl, X1.out⟩
set_option maxRecDepth 100000 in
theorem itoaI_any {n : Int} (hn : Dg3 n) (w : World) : Calls Tryz.prog 226 #[.int .i64 n] w fun e w' => e = .returned (.string ⟨(dg3 n).toArray⟩) ∧ Below w.heap.size w w' := by
  have HS := hide (format_any hn w)
  clear hn
  go_enter Tryz.func226, Tryz.ntmps226
  go_wp2_with (go_at_call 235; refine HS.out.mono ?_; rintro e w1 ⟨rfl, x1⟩; have X1 := hide x1; clear x1)
  go_ret
  exact ⟨rfl, X1.out⟩
set_option maxRecDepth 100000 in
theorem itoa_any {n : Int} (hn : Dg3 n) (w : World) : Calls Tryz.prog 210 #[.int .i64 n] w fun e w' => e = .returned (.string ⟨(dg3 n).toArray⟩) ∧ Below w.heap.size w w' := by
  have HS := hide (itoaI_any hn w)
  clear hn
  go_enter Tryz.func210, Tryz.ntmps210
  go_wp2_with (go_at_call 226; refine HS.out.mono ?_; rintro e w1 ⟨rfl, x1⟩; have X1 := hide x1; clear x1)
  go_ret
  exact ⟨rfl, X1.out⟩
set_option maxHeartbeats 1000000 in
set_option maxRecDepth 100000 in
theorem number_ok {w : World} {base wp : Nat} {s : WS} {n : Int} {x : WS} (hn : Dg3 n) (h : WrA w base wp s.1 s.2) (hx : numW n s = some x) : Calls Tryz.prog 202 #[.pointer (some ⟨wp, 0, none⟩), .int .i64 n] w (PostW base wp w x) := by
  have HI := hide (itoa_any hn w)
  have HM := hide must_ok
  have HO := hide (fun w1 (y : Below w.heap.size w w1) => other_ok (h.below y) hx)
  have h1 : 0 ≤ n := by rcases hn with h | h | h <;> omega
  have h2 : n ≤ 4294967295 := by rcases hn with h | h | h <;> omega
  clear hn h hx
  go_enter Tryz.func202, Tryz.ntmps202
  go_upto_region 1 with (go_at_call 65; refine (HM.out _).mono ?_; rintro e w2 ⟨rfl, hw⟩; subst hw)
  go_wp2_with (first | (go_at_call 210; refine HI.out.mono ?_; rintro e w1 ⟨rfl, x1⟩; have X1 := hide x1; clear x1) | (go_at_call 105; refine (HO.out _ X1.out).mono ?_; rintro e w3 ⟨rfl, r3, x3⟩; have R3 := hide r3; have X3 := hide x3; clear r3 x3))
  go_end0
  exact ⟨rfl, R3.out, (KpO.of_below X1.out).trans X3.out⟩
set_option maxHeartbeats 2000000 in
set_option maxRecDepth 100000 in
theorem ports_ok {w : World} {base wp : Nat} {s : WS} {z : Int × Int} {x : WS} (h1 : Dg3 z.1) (h2 : Dg3 z.2) (h : WrA w base wp s.1 s.2) (hx : spnW z s = some x) : Calls Tryz.prog 171 #[.pointer (some ⟨wp, 0, none⟩), .agg #[.int .i64 z.1, .int .i64 z.2]] w (PostW base wp w x) := by
  obtain ⟨lo, hi⟩ := z
  simp only at h1 h2 ⊢
  unfold spnW at hx
  obtain ⟨y, hy, hx⟩ := Option.bind_eq_some_iff.1 hx
  simp only at hy hx
  have XW : Hid (Below w.heap.size w (w.alloc (.cells #[.int .i64 lo, .int .i64 hi] 68))) := al (Below.refl _ _) _
  have HP := hide (heap_alloc_new w (.cells #[.int .i64 lo, .int .i64 hi] 68))
  have HN1 := hide (number_ok h1 (h.below XW.out) hy)
  have HNE := hide ((h.below XW.out).ne HP.out (by decide))
  have HXX := hide hx
  have HD2 := hide h2
  clear h1 h2 h hy hx
  obtain ⟨P, hP⟩ : ∃ P, P = w.heap.size := ⟨_, rfl⟩
  have q0 : (w.alloc (.cells #[.int .i64 lo, .int .i64 hi] 68)).cell? ⟨P, 0, none⟩ = some (.int .i64 lo) := by rw [hP]; simp
  go_enter Tryz.func171, Tryz.ntmps171
  go_upto_region 1 with fail
  rw [← hP] at HP HNE ⊢
  clear hP
  generalize w.alloc (.cells #[.int .i64 lo, .int .i64 hi] 68) = W at *
  go_upto_region 2 with (go_at_call 202; refine HN1.out.mono ?_; rintro e w1 ⟨rfl, r1, x1⟩; have R1 := hide r1; have X1 := hide x1; clear r1 x1)
  clear HN1 q0
  have HP1 := hide (X1.out.box HP.out (by decide) HNE.out)
  have q0 : w1.cell? ⟨P, 0, none⟩ = some (.int .i64 lo) := by rw [cell_of_row _ _ _ _ _ _ HP1.out]; rfl
  have q1 : w1.cell? ⟨P, 1, none⟩ = some (.int .i64 hi) := by rw [cell_of_row _ _ _ _ _ _ HP1.out]; rfl
  by_cases he : hi = lo
  · subst he
    have HX2 := HXX.out
    rw [if_pos rfl] at HX2
    obtain rfl := Option.some.inj HX2
    have hb : (hi != hi) = false := by simp
    clear HX2 HXX
    go_wp2
    go_end0
    exact ⟨rfl, R1.out, (KpO.of_below XW.out).trans X1.out⟩
  · have HX2 := HXX.out
    rw [if_neg he] at HX2
    obtain ⟨z, hz, hx⟩ := Option.bind_eq_some_iff.1 HX2
    have HO := hide (other_ok R1.out hz)
    have HN := hide (fun w2 (r : WrA w2 base wp z.1 z.2) => number_ok HD2.out r hx)
    have hb : (hi != lo) = true := by simpa using he
    clear HX2 HXX he hz hx
    go_upto_region 4 with (go_at_call 105; refine HO.out.mono ?_; rintro e w2 ⟨rfl, r2, x2⟩; have R2 := hide r2; have X2 := hide x2; clear r2 x2)
    clear HO q0 q1
    have HP2 := hide (X2.out.box HP1.out (by decide) HNE.out)
    have q1 : w2.cell? ⟨P, 1, none⟩ = some (.int .i64 hi) := by rw [cell_of_row _ _ _ _ _ _ HP2.out]; rfl
    go_wp2_with (go_at_call 202; refine (HN.out _ R2.out).mono ?_; rintro e w3 ⟨rfl, r3, x3⟩; have R3 := hide r3; have X3 := hide x3; clear r3 x3)
    go_end0
    exact ⟨rfl, R3.out, (KpO.of_below XW.out).trans (X1.out.trans (X2.out.trans X3.out))⟩
end Go.Proofs.YtlmhofjiobmodaaGreatDoor
/-
  What the pure reader reads is neither deep nor wide. Of no program: no condition.
-/
namespace Go.Proofs.YtlmhofjiobmodaaGreatDoor

theorem Fwd.ne {α : Type} {n i : Nat} {r : PR α} (h : Fwd n i r) : r ≠ .out := fun e => by rw [e] at h; exact h
theorem Fw0.ne {α : Type} {n i : Nat} {r : PR α} (h : Fw0 n i r) : r ≠ .out := fun e => by rw [e] at h; exact h
theorem Fwd.lt {α : Type} {n i j : Nat} {r : PR α} {a : α} (h : Fwd n i r) (e : r = .ok a j) : i < j ∧ j ≤ n := by rw [e] at h; exact h
theorem Fw0.lt {α : Type} {n i j : Nat} {r : PR α} {a : α} (h : Fw0 n i r) (e : r = .ok a j) : i ≤ j ∧ j ≤ n := by rw [e] at h; exact h
theorem PR.bind_ok {α β : Type} {x : PR α} {f : α → Nat → PR β} {b : β} {j : Nat} (h : x.bind f = .ok b j) : ∃ a i, x = .ok a i ∧ f a i = .ok b j := by
  cases x with
  | ok a i => exact ⟨a, i, rfl, h⟩
  | bad e p => cases h
  | out => cases h
/-- No list of parts is longer than n. -/
def Nrw (n : Nat) : CT → Prop
  | .mk _ _ _ _ _ _ kids _ => kids.length ≤ n ∧ nrwL kids
where nrwL : List CT → Prop
  | [] => True
  | c :: l => Nrw n c ∧ nrwL l
theorem nrwL_iff {n : Nat} : ∀ {l : List CT}, Nrw.nrwL n l ↔ ∀ c ∈ l, Nrw n c
  | [] => by simp [Nrw.nrwL]
  | c :: l => by
    have := @nrwL_iff n l
    simp [Nrw.nrwL, this]
theorem Nrw.kids {n : Nat} {c : CT} (h : Nrw n c) : c.kids.length ≤ n ∧ ∀ k ∈ c.kids, Nrw n k := by
  cases c with
  | mk k nm tx pre sp ns kids p =>
    unfold Nrw at h
    exact ⟨h.1, nrwL_iff.1 h.2⟩
theorem Nrw.of {n : Nat} {c : CT} (h : c.kids.length ≤ n) (h2 : ∀ k ∈ c.kids, Nrw n k) : Nrw n c := by
  cases c with
  | mk k nm tx pre sp ns kids p =>
    unfold Nrw
    exact ⟨h, nrwL_iff.2 h2⟩
theorem dptL_le {m : Nat} : ∀ {l : List CT}, dpt.dptL l ≤ m ↔ ∀ c ∈ l, dpt c ≤ m
  | [] => by simp [dpt.dptL]
  | c :: l => by
    have := @dptL_le m l
    simp [dpt.dptL, Nat.max_le, this]
theorem dpt_kids (c : CT) : dpt c = dpt.dptL c.kids + 1 := by
  cases c with
  | mk k nm tx pre sp ns kids p => rw [dpt]; rfl
theorem dptL_snoc : ∀ (l : List CT) (c : CT), dpt.dptL (l ++ [c]) = max (dpt.dptL l) (dpt c)
  | [], c => by simp [dpt.dptL]
  | d :: l, c => by
    rw [List.cons_append, dpt.dptL, dptL_snoc l c, dpt.dptL, Nat.max_assoc]
theorem dptL_take (l : List CT) (k : Nat) (h : k < l.length) : dpt.dptL (l.take (k + 1)) = max (dpt.dptL (l.take k)) (dpt l[k]) := by
  rw [List.take_succ_eq_append_getElem h, dptL_snoc]
theorem dpt_leaf {c : CT} (h : c.kids = []) : dpt c = 1 := by rw [dpt_kids, h]; rfl
section
variable {Ts : List Tk}
theorem partP_kids {kind : Int} {c c' : CT} {i j : Nat} (h : partP Ts kind c i = .ok c' j) : c'.kids = c.kids := by
  obtain ⟨t, l, _, h⟩ := PR.bind_ok h
  split at h
  · cases h; rfl
  · split at h
    · split at h
      · obtain ⟨u, m, _, h⟩ := PR.bind_ok h
        cases h; rfl
      · cases h; rfl
    · cases h; rfl
theorem moreP_kids {kind : Int} : ∀ {f parts : Nat} {c c' : CT} {i j : Nat}, moreP Ts kind f parts c i = .ok c' j → c'.kids = c.kids
  | 0, _, _, _, _, _, h => by cases h
  | f + 1, parts, c, c', i, j, h => by
    unfold moreP at h
    split at h
    · split at h
      · cases h
      · obtain ⟨d, l, h1, h⟩ := PR.bind_ok h
        rw [moreP_kids h, partP_kids h1]
    · obtain ⟨_, l, _, h⟩ := PR.bind_ok h
      cases h; rfl
theorem listP_kids {kind : Int} {f : Nat} {c c' : CT} {i j : Nat} (h : listP Ts f kind c i = .ok c' j) : c'.kids = c.kids := by
  obtain ⟨_, l, _, h⟩ := PR.bind_ok h
  obtain ⟨_, m, _, h⟩ := PR.bind_ok h
  obtain ⟨d, q, h1, h⟩ := PR.bind_ok h
  rw [moreP_kids h, partP_kids h1]
theorem restP_kids {f : Nat} {c c' : CT} {i j : Nat} (h : restP Ts f c i = .ok c' j) : c'.kids = c.kids := by
  unfold restP at h
  split at h
  · exact listP_kids h
  split at h
  · exact listP_kids h
  split at h
  · exact listP_kids h
  split at h
  · obtain ⟨_, l, _, h⟩ := PR.bind_ok h
    obtain ⟨_, m, _, h⟩ := PR.bind_ok h
    cases h; rfl
  split at h
  · obtain ⟨_, l, _, h⟩ := PR.bind_ok h
    obtain ⟨_, m, _, h⟩ := PR.bind_ok h
    obtain ⟨_, q, _, h⟩ := PR.bind_ok h
    cases h; rfl
  split at h
  · obtain ⟨_, l, _, h⟩ := PR.bind_ok h
    cases h; rfl
  cases h; rfl
/-- Neither deep nor wide. -/
def Gd (n : Nat) (c : CT) : Prop := dpt c ≤ 16 ∧ Nrw n c
theorem Gd.leaf {n : Nat} {c : CT} (h : c.kids = []) : Gd n c := ⟨by rw [dpt_leaf h]; decide, Nrw.of (by rw [h]; exact Nat.zero_le _) (by rw [h]; intro k hk; cases hk)⟩
theorem overP_ok {c c' : CT} {i j : Nat} (h : overP c i = .ok c' j) : c' = c ∧ j = i ∧ dpt c ≤ 16 := by
  unfold overP at h
  split at h
  · cases h
  · cases h; exact ⟨rfl, rfl, by omega⟩
theorem rowP_good {part : Nat → PR CT} {word : By} {kind : Int} : ∀ (f : Nat) (ks : List CT) (p : Int) (i : Nat) (c : CT) (j : Nat), (∀ l c m, i < l → l ≤ Ts.length → part l = .ok c m → l < m ∧ m ≤ Ts.length ∧ Gd Ts.length c) → ks.length ≤ i → i ≤ Ts.length → (∀ k ∈ ks, Gd Ts.length k) → rowP Ts part word kind f ks p i = .ok c j → Gd Ts.length c
  | 0, _, _, _, _, _, _, _, _, _, h => by cases h
  | f + 1, ks, p, i, c, j, hp, h1, h2, h3, h => by
    unfold rowP at h
    split at h
    · rename_i hw
      split at h
      · cases h
      · obtain ⟨d, l, h4, h⟩ := PR.bind_ok h
        have hi := isT_lt (by decide) hw
        obtain ⟨q1, q2, q3⟩ := hp _ _ _ (Nat.lt_succ_self _) hi h4
        exact rowP_good f (ks ++ [d]) p l c j (fun a b e g1 g2 g3 => hp a b e (by omega) g2 g3) (by rw [List.length_append, List.length_singleton]; omega) q2 (fun k hk => by
          rcases List.mem_append.1 hk with hk | hk
          · exact h3 k hk
          · rw [List.mem_singleton.1 hk]; exact q3) h
    · obtain ⟨e1, _, e3⟩ := overP_ok h
      rw [e1]
      exact ⟨e3, Nrw.of (by show ks.length ≤ _; omega) (fun k hk => (h3 k hk).2)⟩
theorem condP_good : ∀ (f place i : Nat) (c : CT) (j : Nat), place ≤ 3 → i ≤ Ts.length → 4 * (Ts.length - i) + (3 - place) + 2 ≤ f → condP Ts f place i = .ok c j → Gd Ts.length c
  | 0, _, _, _, _, _, _, _, h => by cases h
  | f + 1, 0, i, c, j, _, hi, hf, h => by
    rw [condP_zero] at h
    obtain ⟨d, l, h1, h⟩ := PR.bind_ok h
    have g1 := condP_good f 1 i d l (by decide) hi (by omega) h1
    have g2 := (condP_fwd f 1 i (by decide) hi (by omega)).lt h1
    split at h
    · refine rowP_good f [d] d.p l c j (fun a b e q1 q2 q3 => ?_) (by rw [List.length_singleton]; omega) g2.2 (fun k hk => by rw [List.mem_singleton.1 hk]; exact g1) h
      have q4 := (condP_fwd f 1 a (by decide) q2 (by omega)).lt q3
      exact ⟨q4.1, q4.2, condP_good f 1 a b e (by decide) q2 (by omega) q3⟩
    · cases h; exact g1
  | f + 1, 1, i, c, j, _, hi, hf, h => by
    rw [condP_one] at h
    obtain ⟨d, l, h1, h⟩ := PR.bind_ok h
    have g1 := condP_good f 2 i d l (by decide) hi (by omega) h1
    have g2 := (condP_fwd f 2 i (by decide) hi (by omega)).lt h1
    split at h
    · refine rowP_good f [d] d.p l c j (fun a b e q1 q2 q3 => ?_) (by rw [List.length_singleton]; omega) g2.2 (fun k hk => by rw [List.mem_singleton.1 hk]; exact g1) h
      have q4 := (condP_fwd f 2 a (by decide) q2 (by omega)).lt q3
      exact ⟨q4.1, q4.2, condP_good f 2 a b e (by decide) q2 (by omega) q3⟩
    · cases h; exact g1
  | f + 1, 2, i, c, j, _, hi, hf, h => by
    rw [condP_two] at h
    split at h
    · rename_i hw
      have hl := isT_lt (by decide) hw
      obtain ⟨d, l, h1, h⟩ := PR.bind_ok h
      have g1 := condP_good f 2 (i + 1) d l (by decide) hl (by omega) h1
      obtain ⟨e1, _, e3⟩ := overP_ok h
      rw [e1]
      exact ⟨e3, Nrw.of (by show 1 ≤ _; omega) (fun k hk => by
        have hk : k ∈ [d] := hk
        rw [List.mem_singleton.1 hk]; exact g1.2)⟩
    · exact condP_good f 3 i c j (by decide) hi (by omega) h
  | f + 1, 3, i, c, j, _, hi, hf, h => by
    rw [condP_three] at h
    split at h
    · rename_i hw
      have hl := isT_lt (by decide) hw
      obtain ⟨d, l, h1, h⟩ := PR.bind_ok h
      obtain ⟨_, m, _, h⟩ := PR.bind_ok h
      cases h
      exact condP_good f 0 (i + 1) _ _ (by decide) hl (by omega) h1
    · split at h
      · cases h; exact Gd.leaf rfl
      · split at h
        · cases h
        · exact Gd.leaf (restP_kids h)
  | f + 1, n + 4, i, _, _, h, _, _, _ => by omega
end
end Go.Proofs.YtlmhofjiobmodaaGreatDoor
/-
  The reader's ports by its contract. No condition.
-/
namespace Go.Proofs.YtlmhofjiobmodaaGreatDoor
open Go.RowKit Go.Lib

theorem RdA.kept {F : Nat → Prop} {w w' : World} {base rp g cap : Nat} {Ts : List Tk} {i : Nat} (h : RdA w base rp g cap Ts i) (hk : Kept F w w') (h1 : ¬ F rp) (h2 : ¬ F g) : RdA w' base rp g cap Ts i :=
  ⟨(hk.block rp (lt_of_block h.blk) h1).trans h.blk, own_kept h.row hk (fun k h3 h4 => by cases h3; exact h2 h4), h.lt, h.few, h.endk⟩
set_option maxRecDepth 100000 in
set_option maxHeartbeats 1000000 in
theorem ports_one {w : World} {base rp g cap : Nat} {Ts : List Tk} {i : Nat} (h : RdA w base rp g cap Ts i) (n : Int) (hs : isT Ts 7 [45] i = false) : Calls Tryz.prog 180 #[.pointer (some ⟨rp, 0, none⟩), .int .i64 n] w fun e w' => e = .returned (.agg #[.int .i64 n, .int .i64 n]) ∧ Below w.heap.size w w' := by
  have X0 := hide (show Below w.heap.size w (w.alloc (.cells #[.int .i64 0, .int .i64 0] 68)) from al (Below.refl _ _) _)
  have HS := hide (isSgn_any (h.below X0.out) [45])
  rw [hs] at HS
  have hb0 := heap_alloc_new w (.cells #[.int .i64 0, .int .i64 0] 68)
  have hl0 : w.heap.size < (w.alloc (.cells #[.int .i64 0, .int .i64 0] 68)).heap.size := by simp
  have HB0 := hide hb0
  have HL0 := hide hl0
  clear h hs hb0 hl0
  go_enter Tryz.func180, Tryz.ntmps180
  go_upto_region 2 with (go_at_call 143; refine HS.out.mono ?_; rintro e w1 ⟨rfl, x1⟩; have X1 := hide x1; clear x1)
  have B1 := hide ((X1.out.block w.heap.size HL0.out).trans HB0.out)
  have X2 := hide (bt X0.out X1.out (Nat.le_refl _))
  have e0 : w1.cell? ⟨w.heap.size, 0, none⟩ = some (.int .i64 0) := by rw [cell_of_row _ _ _ _ _ _ B1.out]; rfl
  have f0 := frozen_of_row w1 w.heap.size 0 _ _ B1.out
  have B2 := hide (block_setCell' B1.out 0 (.int .i64 n))
  have e1 : (w1.setCell ⟨w.heap.size, 0, none⟩ (.int .i64 n)).cell? ⟨w.heap.size, 1, none⟩ = some (.int .i64 0) := by rw [cell_of_row _ _ _ _ _ _ B2.out]; rfl
  have f1 := frozen_of_row _ w.heap.size 1 _ _ B2.out
  have B3 := hide (block_setCell' B2.out 1 (.int .i64 n))
  have K3 : Hid (Below w.heap.size w ((w1.setCell ⟨w.heap.size, 0, none⟩ (.int .i64 n)).setCell ⟨w.heap.size, 1, none⟩ (.int .i64 n))) := (X2.out.setCell (Nat.le_refl _) _).setCell (Nat.le_refl _) _
  go_wp2
  clear e0 f0 e1 f1
  generalize (w1.setCell ⟨w.heap.size, 0, none⟩ (.int .i64 n)).setCell ⟨w.heap.size, 1, none⟩ (.int .i64 n) = w9 at *
  have r0 : w9.cell? ⟨w.heap.size, 0, none⟩ = some (.int .i64 n) := by rw [cell_of_row _ _ _ _ _ _ B3.out]; rfl
  have r1 : w9.cell? ⟨w.heap.size, 1, none⟩ = some (.int .i64 n) := by rw [cell_of_row _ _ _ _ _ _ B3.out]; rfl
  refine bodyPost_ret (by simp [results, Tryz.results180, go_sem, r0, r1]; try rfl) rfl ?_
  exact ⟨rfl, K3.out⟩
theorem isT_kind {Ts : List Tk} {kind : Int} {text : By} {i : Nat} (h : isT Ts kind text i = true) : (tok Ts i).k = kind := by
  unfold isT at h
  simp only [Bool.and_eq_true, beq_iff_eq] at h
  exact h.1
set_option maxRecDepth 100000 in
set_option maxHeartbeats 1000000 in
theorem ports_two {w : World} {base rp g cap : Nat} {Ts : List Tk} {i : Nat} (h : RdA w base rp g cap Ts i) (n : Int) (hs : isT Ts 7 [45] i = true) (hk : (tok Ts (i + 1)).k = 4) : Calls Tryz.prog 180 #[.pointer (some ⟨rp, 0, none⟩), .int .i64 n] w fun e w' => e = .returned (.agg #[.int .i64 n, .int .i64 (tok Ts (i + 1)).n]) ∧ RdA w' base rp g cap Ts (i + 2) ∧ Kept (fun k => k = rp) w w' := by
  have hn : i + 1 < Ts.length := h.next (by rw [isT_kind hs]; decide)
  have X0 := hide (show Below w.heap.size w (w.alloc (.cells #[.int .i64 0, .int .i64 0] 68)) from al (Below.refl _ _) _)
  have HS := hide (isSgn_any (h.below X0.out) [45])
  rw [hs] at HS
  have HB0 := hide (heap_alloc_new w (.cells #[.int .i64 0, .int .i64 0] 68))
  have HL0 : Hid (w.heap.size < (w.alloc (.cells #[.int .i64 0, .int .i64 0] 68)).heap.size) := by simp [Hid]
  have HR := hide h
  have HN := hide hn
  have HL := hide h.few
  have HK := hide hk
  have HRP : Hid (rp < w.heap.size) := lt_of_block h.blk
  have HGL : Hid (g < w.heap.size) := (World.ownsRow.lt h.row g rfl).2
  have fw : IntKind.i64.wrap ((i : Int) + 1) = (i : Int) + 1 := by have := HL.out; have := HN.out; simp [IntKind.wrap, IntKind.bits, IntKind.signed]; omega
  have hf := fld2
  clear h hs hn hk
  go_enter Tryz.func180, Tryz.ntmps180
  go_upto_region 3 with (go_at_call 143; refine HS.out.mono ?_; rintro e w1 ⟨rfl, x1⟩; have X1 := hide x1; clear x1)
  have B1 := hide ((X1.out.block w.heap.size HL0.out).trans HB0.out)
  have X2 := hide (bt X0.out X1.out (Nat.le_refl _))
  have R1 := hide (HR.out.below X2.out)
  obtain ⟨_, c1⟩ := R1.out.two
  have f1 := frozen_of_row w1 rp 1 _ _ R1.out.blk
  go_upto_region 4 with fail
  clear c1 f1
  have R2 := hide (R1.out.step HN.out)
  have K2 : Hid (Kept (fun k => k = rp) w1 (w1.setCell ⟨rp, 1, none⟩ (.int .i64 ((i : Int) + 1)))) := Kept.setCell (F := fun k => k = rp) (p := ⟨rp, 1, none⟩) (Kept.refl _ _) rfl _
  have n0 : ¬ w.heap.size = rp := by have := HRP.out; omega
  have B2 := hide ((K2.out.block w.heap.size (lt_of_block B1.out) n0).trans B1.out)
  have KA := hide ((Kept.of_below (F := fun k => k = rp) X2.out).trans K2.out)
  clear R1 B1 K2 X1 X2 HS
  generalize w1.setCell ⟨rp, 1, none⟩ (.int .i64 ((i : Int) + 1)) = w2 at *
  have HT := hide (takeR_ok R2.out HK.out (by decide))
  unfold tkV at HT
  obtain ⟨z, hz⟩ : ∃ z, z = tok Ts (i + 1) := ⟨_, rfl⟩
  rw [← hz] at HT
  have HZ := hide hz
  clear hz
  go_wp2_with (go_at_call 74; refine HT.out.mono ?_; rintro e w3 ⟨rfl, r3, k3⟩; have R3 := hide r3; have K3 := hide k3; have B3 := hide ((k3.block w.heap.size (lt_of_block B2.out) n0).trans B2.out); have e0 : w3.cell? ⟨w.heap.size, 0, none⟩ = some (.int .i64 0) := (by rw [cell_of_row _ _ _ _ _ _ B3.out]; rfl); have f0 := frozen_of_row w3 w.heap.size 0 _ _ B3.out; have B4 := hide (block_setCell' B3.out 0 (.int .i64 n)); have e1 : (w3.setCell ⟨w.heap.size, 0, none⟩ (.int .i64 n)).cell? ⟨w.heap.size, 1, none⟩ = some (.int .i64 0) := (by rw [cell_of_row _ _ _ _ _ _ B4.out]; rfl); have f1 := frozen_of_row _ w.heap.size 1 _ _ B4.out; have B5 := hide (block_setCell' B4.out 1 (.int .i64 z.n)); clear r3 k3)
  clear e0 f0 e1 f1
  have K5 : Hid (Kept (fun k => k = w.heap.size) w3 ((w3.setCell ⟨w.heap.size, 0, none⟩ (.int .i64 n)).setCell ⟨w.heap.size, 1, none⟩ (.int .i64 z.n))) := Kept.setCell (F := fun k => k = w.heap.size) (p := ⟨w.heap.size, 1, none⟩) (Kept.setCell (F := fun k => k = w.heap.size) (p := ⟨w.heap.size, 0, none⟩) (Kept.refl _ _) rfl _) rfl _
  generalize (w3.setCell ⟨w.heap.size, 0, none⟩ (.int .i64 n)).setCell ⟨w.heap.size, 1, none⟩ (.int .i64 z.n) = w9 at *
  have r0 : w9.cell? ⟨w.heap.size, 0, none⟩ = some (.int .i64 n) := by rw [cell_of_row _ _ _ _ _ _ B5.out]; rfl
  have r1 : w9.cell? ⟨w.heap.size, 1, none⟩ = some (.int .i64 z.n) := by rw [cell_of_row _ _ _ _ _ _ B5.out]; rfl
  refine bodyPost_ret (by simp [results, Tryz.results180, go_sem, r0, r1]; try rfl) rfl ?_
  exact ⟨by rw [HZ.out], R3.out.kept K5.out (fun e => n0 e.symm) (Nat.ne_of_lt HGL.out), Kept.trans_new (KA.out.trans K3.out) K5.out (fun k h1 h2 => absurd h1 (by omega))⟩
set_option maxRecDepth 100000 in
set_option maxHeartbeats 1000000 in
theorem ports_bad {w : World} {base rp g cap : Nat} {Ts : List Tk} {i : Nat} (h : RdA w base rp g cap Ts i) (n : Int) (hs : isT Ts 7 [45] i = true) (hk : ¬ (tok Ts (i + 1)).k = 4) : Calls Tryz.prog 180 #[.pointer (some ⟨rp, 0, none⟩), .int .i64 n] w fun e w' => e = pan 90 (tok Ts (i + 1)).p ∧ Kept (fun k => k = rp) w w' := by
  have hn : i + 1 < Ts.length := h.next (by rw [isT_kind hs]; decide)
  have X0 := hide (show Below w.heap.size w (w.alloc (.cells #[.int .i64 0, .int .i64 0] 68)) from al (Below.refl _ _) _)
  have HS := hide (isSgn_any (h.below X0.out) [45])
  rw [hs] at HS
  have HR := hide h
  have HN := hide hn
  have HL := hide h.few
  have HK := hide hk
  have fw : IntKind.i64.wrap ((i : Int) + 1) = (i : Int) + 1 := by have := HL.out; have := HN.out; simp [IntKind.wrap, IntKind.bits, IntKind.signed]; omega
  clear h hs hn hk
  go_enter Tryz.func180, Tryz.ntmps180
  go_upto_region 3 with (go_at_call 143; refine HS.out.mono ?_; rintro e w1 ⟨rfl, x1⟩; have X1 := hide x1; clear x1)
  have X2 := hide (bt X0.out X1.out (Nat.le_refl _))
  have R1 := hide (HR.out.below X2.out)
  obtain ⟨_, c1⟩ := R1.out.two
  have f1 := frozen_of_row w1 rp 1 _ _ R1.out.blk
  go_upto_region 4 with fail
  clear c1 f1
  have R2 := hide (R1.out.step HN.out)
  have K2 : Hid (Kept (fun k => k = rp) w1 (w1.setCell ⟨rp, 1, none⟩ (.int .i64 ((i : Int) + 1)))) := Kept.setCell (F := fun k => k = rp) (p := ⟨rp, 1, none⟩) (Kept.refl _ _) rfl _
  have KA := hide ((Kept.of_below (F := fun k => k = rp) X2.out).trans K2.out)
  clear R1 K2 X1 X2 HS
  generalize w1.setCell ⟨rp, 1, none⟩ (.int .i64 ((i : Int) + 1)) = w2 at *
  have HT := hide (takeR_bad R2.out HK.out)
  obtain ⟨z, hz⟩ : ∃ z, z = tok Ts (i + 1) := ⟨_, rfl⟩
  rw [← hz] at HT
  have HZ := hide hz
  clear hz
  go_wp2_with (go_at_call 74; refine HT.out.mono ?_; rintro e w3 ⟨he, x3⟩; unfold pan at he; subst he; have X3 := hide x3; clear x3)
  exact ⟨rfl, by rw [HZ.out]; rfl, KA.out.trans (Kept.of_below X3.out)⟩
end Go.Proofs.YtlmhofjiobmodaaGreatDoor
