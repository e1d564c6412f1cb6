/-
  The reader of policies, pure: tokens to trees, or what is wrong first, and where. Of no program: no condition.
-/
import Derived.Test.YtlmhofjiobmodaaGreatDoorQ03
namespace Go.Proofs.YtlmhofjiobmodaaGreatDoor

/-- A condition. -/
inductive CT where
  | mk (k : Int) (nm tx : By) (pre sp : List (Int × Int)) (ns : List By) (kids : List CT) (p : Int)
namespace CT
def k : CT → Int | mk k _ _ _ _ _ _ _ => k
def nm : CT → By | mk _ x _ _ _ _ _ _ => x
def tx : CT → By | mk _ _ x _ _ _ _ _ => x
def pre : CT → List (Int × Int) | mk _ _ _ x _ _ _ _ => x
def sp : CT → List (Int × Int) | mk _ _ _ _ x _ _ _ => x
def ns : CT → List By | mk _ _ _ _ _ x _ _ => x
def kids : CT → List CT | mk _ _ _ _ _ _ x _ => x
def p : CT → Int | mk _ _ _ _ _ _ _ x => x
end CT
/-- How deep. -/
def dpt : CT → Nat
  | .mk _ _ _ _ _ _ kids _ => dptL kids + 1
where dptL : List CT → Nat
  | [] => 0
  | c :: l => max (dpt c) (dptL l)
/-- What reading comes to. -/
inductive PR (α : Type) where
  | ok (a : α) (i : Nat)
  | bad (e p : Int)
  | out
def PR.bind {α β : Type} (x : PR α) (f : α → Nat → PR β) : PR β := match x with
  | .ok a i => f a i
  | .bad e p => .bad e p
  | .out => .out
def z0 : Tk := ⟨0, [], 0, 0, 0, 0⟩
section
variable (Ts : List Tk)
def tok (i : Nat) : Tk := Ts.getD i z0
def isT (kind : Int) (text : By) (i : Nat) : Bool := (tok Ts i).k == kind && (tok Ts i).t == text
def takeP (kind : Int) (i : Nat) : PR Tk := if (tok Ts i).k = kind then .ok (tok Ts i) (i + 1) else .bad 90 (tok Ts i).p
def takeT (kind : Int) (text : By) (i : Nat) : PR Unit := if isT Ts kind text i = true then .ok () (i + 1) else .bad 90 (tok Ts i).p
end
/-- Words. -/
def wOr : By := [111, 114]
def wAnd : By := [97, 110, 100]
def wNot : By := [110, 111, 116]
def wTrue : By := [116, 114, 117, 101]
def wFalse : By := [102, 97, 108, 115, 101]
def wAddr : By := [97, 100, 100, 114]
def wPort : By := [112, 111, 114, 116]
def wMethod : By := [109, 101, 116, 104, 111, 100]
def wPath : By := [112, 97, 116, 104]
def wHeader : By := [104, 101, 97, 100, 101, 114]
def wHas : By := [104, 97, 115]
def wIn : By := [105, 110]
def wLet : By := [108, 101, 116]
def wAllow : By := [97, 108, 108, 111, 119]
def wDeny : By := [100, 101, 110, 121]
def wWhen : By := [119, 104, 101, 110]
/-- The word of a test. -/
def tWord (k : Nat) : By := match k with
  | 1 => wTrue | 2 => wFalse | 7 => wAddr | 8 => wPort | 9 => wMethod | 10 => wPath | 11 => wHeader | 12 => wHas | _ => []
def iWord (k : Nat) : By := match k with
  | 1 => wLet | 2 => wAllow | 3 => wDeny | _ => []
section
variable (Ts : List Tk)
/-- The first of some kinds whose word stands there; 0, if none does. -/
def kindAt (word : Nat → By) (i : Nat) : Nat → Nat → Nat
  | 0, _ => 0
  | n + 1, k => if isT Ts 1 (word k) i = true then k else kindAt word i n (k + 1)
def testAt (i : Nat) : Nat := kindAt Ts tWord i 12 1
def itemAt (i : Nat) : Nat := kindAt Ts iWord i 3 1
def begP (i : Nat) : Bool := (tok Ts i).k == 2 || isT Ts 7 [40] i || isT Ts 1 wNot i || testAt Ts i != 0
/-- One part of a list. -/
def partP (kind : Int) (c : CT) (i : Nat) : PR CT := (takeP Ts kind i).bind fun t j =>
  if kind = 5 then .ok (.mk c.k c.nm c.tx (c.pre ++ [(t.a, t.b)]) c.sp c.ns c.kids c.p) j
  else if kind = 4 then
    if isT Ts 7 [45] j = true then (takeP Ts 4 (j + 1)).bind fun u l => .ok (.mk c.k c.nm c.tx c.pre (c.sp ++ [(t.n, u.n)]) c.ns c.kids c.p) l
    else .ok (.mk c.k c.nm c.tx c.pre (c.sp ++ [(t.n, t.n)]) c.ns c.kids c.p) j
  else .ok (.mk c.k c.nm c.tx c.pre c.sp (c.ns ++ [t.t]) c.kids c.p) j
/-- The parts behind the first. -/
def moreP (kind : Int) : Nat → Nat → CT → Nat → PR CT
  | 0, _, _, _ => .out
  | f + 1, parts, c, i =>
    if isT Ts 7 [44] i = true then
      if parts = 32 ∧ (tok Ts (i + 1)).k = kind then .bad 92 (tok Ts (i + 1)).p
      else (partP Ts kind c (i + 1)).bind fun c' j => moreP kind f (parts + 1) c' j
    else (takeT Ts 7 [125] i).bind fun _ j => .ok c j
def listP (f : Nat) (kind : Int) (c : CT) (i : Nat) : PR CT := (takeT Ts 1 wIn i).bind fun _ j => (takeT Ts 7 [123] j).bind fun _ l => (partP Ts kind c l).bind fun c' m => moreP Ts kind f 1 c' m
/-- What stands behind a test's word. -/
def restP (f : Nat) (c : CT) (i : Nat) : PR CT :=
  if c.k = 7 then listP Ts f 5 c i
  else if c.k = 8 then listP Ts f 4 c i
  else if c.k = 9 then listP Ts f 3 c i
  else if c.k = 10 then (takeT Ts 7 [126] i).bind fun _ j => (takeP Ts 6 j).bind fun t l => .ok (.mk c.k c.nm t.t c.pre c.sp c.ns c.kids c.p) l
  else if c.k = 11 then (takeP Ts 6 i).bind fun u h => (takeT Ts 7 [126] h).bind fun _ j => (takeP Ts 6 j).bind fun t l => .ok (.mk c.k u.t t.t c.pre c.sp c.ns c.kids c.p) l
  else if c.k = 12 then (takeP Ts 6 i).bind fun u h => .ok (.mk c.k u.t c.tx c.pre c.sp c.ns c.kids c.p) h
  else .ok c i
def overP (c : CT) (i : Nat) : PR CT := if 16 < dpt c then .bad 91 c.p else .ok c i
/-- The rest of a row: its parts so far. -/
def rowP (part : Nat → PR CT) (word : By) (kind : Int) : Nat → List CT → Int → Nat → PR CT
  | 0, _, _, _ => .out
  | f + 1, ks, p, i =>
    if isT Ts 1 word i = true then
      if ks.length = 32 ∧ begP Ts (i + 1) = true then .bad 92 (tok Ts (i + 1)).p
      else (part (i + 1)).bind fun c j => rowP part word kind f (ks ++ [c]) p j
    else overP (.mk kind [] [] [] [] [] ks p) i
/-- A condition whose operators stand at a place or behind it. -/
def condP : Nat → Nat → Nat → PR CT
  | 0, _, _ => .out
  | f + 1, 0, i => (condP f 1 i).bind fun c j => if isT Ts 1 wOr j = true then rowP Ts (condP f 1) wOr 6 f [c] c.p j else .ok c j
  | f + 1, 1, i => (condP f 2 i).bind fun c j => if isT Ts 1 wAnd j = true then rowP Ts (condP f 2) wAnd 5 f [c] c.p j else .ok c j
  | f + 1, 2, i => if isT Ts 1 wNot i = true then (condP f 2 (i + 1)).bind fun c j => overP (.mk 4 [] [] [] [] [] [c] (tok Ts i).p) j else condP f 3 i
  | f + 1, _, i =>
    if isT Ts 7 [40] i = true then (condP f 0 (i + 1)).bind fun c j => (takeT Ts 7 [41] j).bind fun _ l => .ok c l
    else if (tok Ts i).k = 2 then .ok (.mk 3 (tok Ts i).t [] [] [] [] [] (tok Ts i).p) (i + 1)
    else if testAt Ts i = 0 then .bad 90 (tok Ts i).p
    else restP Ts f (.mk (testAt Ts i : Nat) [] [] [] [] [] [] (tok Ts i).p) (i + 1)
theorem condP_zero (f i : Nat) : condP Ts (f + 1) 0 i = (condP Ts f 1 i).bind fun c j => if isT Ts 1 wOr j = true then rowP Ts (condP Ts f 1) wOr 6 f [c] c.p j else .ok c j := rfl
theorem condP_one (f i : Nat) : condP Ts (f + 1) 1 i = (condP Ts f 2 i).bind fun c j => if isT Ts 1 wAnd j = true then rowP Ts (condP Ts f 2) wAnd 5 f [c] c.p j else .ok c j := rfl
theorem condP_two (f i : Nat) : condP Ts (f + 1) 2 i = if isT Ts 1 wNot i = true then (condP Ts f 2 (i + 1)).bind fun c j => overP (.mk 4 [] [] [] [] [] [c] (tok Ts i).p) j else condP Ts f 3 i := rfl
theorem condP_three (f i : Nat) : condP Ts (f + 1) 3 i = if isT Ts 7 [40] i = true then (condP Ts f 0 (i + 1)).bind fun c j => (takeT Ts 7 [41] j).bind fun _ l => .ok c l
    else if (tok Ts i).k = 2 then .ok (.mk 3 (tok Ts i).t [] [] [] [] [] (tok Ts i).p) (i + 1)
    else if testAt Ts i = 0 then .bad 90 (tok Ts i).p
    else restP Ts f (.mk (testAt Ts i : Nat) [] [] [] [] [] [] (tok Ts i).p) (i + 1) := rfl
/-- An item: its kind, its name, its condition, its place. -/
structure IT where
  k : Int
  nm : By
  c : CT
  p : Int
def itemP (f kind : Nat) (i : Nat) : PR IT := (takeP Ts 1 i).bind fun t j => (takeP Ts 2 j).bind fun u l => (if kind = 1 then takeT Ts 7 [61] l else takeT Ts 1 wWhen l).bind fun _ m => (condP Ts f 0 m).bind fun c n => (takeT Ts 7 [59] n).bind fun _ o => .ok ⟨kind, u.t, c, t.p⟩ o
def polP : Nat → List IT → Nat → PR (List IT)
  | 0, _, _ => .out
  | f + 1, L, i => if (tok Ts i).k = 8 then .ok L i
    else if itemAt Ts i = 0 then .bad 90 (tok Ts i).p
    else if L.length = 100 then .bad 92 (tok Ts i).p
    else (itemP Ts f (itemAt Ts i) i).bind fun x j => polP f (L ++ [x]) j
end
end Go.Proofs.YtlmhofjiobmodaaGreatDoor
/-
  The pure reader comes to an end, and goes forward. Of no program: no condition.
-/
namespace Go.Proofs.YtlmhofjiobmodaaGreatDoor

def Fwd {α : Type} (n i : Nat) (r : PR α) : Prop := match r with
  | .ok _ j => i < j ∧ j ≤ n
  | .bad _ _ => True
  | .out => False
def Fw0 {α : Type} (n i : Nat) (r : PR α) : Prop := match r with
  | .ok _ j => i ≤ j ∧ j ≤ n
  | .bad _ _ => True
  | .out => False
theorem Fwd.bind {α β : Type} {n i : Nat} {x : PR α} {f : α → Nat → PR β} (h : Fwd n i x) (hf : ∀ a j, x = .ok a j → i < j → j ≤ n → Fw0 n j (f a j)) : Fwd n i (x.bind f) := by
  cases x with
  | ok a j =>
    have h2 := hf a j rfl h.1 h.2
    show Fwd n i (f a j)
    cases hh : f a j with
    | ok b l => rw [hh] at h2; exact ⟨Nat.lt_of_lt_of_le h.1 h2.1, h2.2⟩
    | bad e p => trivial
    | out => rw [hh] at h2; exact h2
  | bad e p => trivial
  | out => exact h
theorem Fw0.bind {α β : Type} {n i : Nat} {x : PR α} {f : α → Nat → PR β} (h : Fw0 n i x) (hf : ∀ a j, x = .ok a j → i ≤ j → j ≤ n → Fw0 n j (f a j)) : Fw0 n i (x.bind f) := by
  cases x with
  | ok a j =>
    have h2 := hf a j rfl h.1 h.2
    show Fw0 n i (f a j)
    cases hh : f a j with
    | ok b l => rw [hh] at h2; exact ⟨Nat.le_trans h.1 h2.1, h2.2⟩
    | bad e p => trivial
    | out => rw [hh] at h2; exact h2
  | bad e p => trivial
  | out => exact h
theorem Fwd.fw0 {α : Type} {n i : Nat} {r : PR α} (h : Fwd n i r) : Fw0 n i r := by
  cases r with
  | ok a j => exact ⟨Nat.le_of_lt h.1, h.2⟩
  | bad e p => trivial
  | out => exact h
theorem Fw0.fwd {α : Type} {n i j : Nat} {r : PR α} (h : Fw0 n j r) (hij : i < j) : Fwd n i r := by
  cases r with
  | ok a l => exact ⟨Nat.lt_of_lt_of_le hij h.1, h.2⟩
  | bad e p => trivial
  | out => exact h
theorem Fw0.le {α : Type} {n i j : Nat} {r : PR α} (h : Fw0 n j r) (hij : i ≤ j) : Fw0 n i r := by
  cases r with
  | ok a l => exact ⟨Nat.le_trans hij h.1, h.2⟩
  | bad e p => trivial
  | out => exact h
section
variable {Ts : List Tk}
theorem tok_lt {i : Nat} (h : (tok Ts i).k ≠ 0) : i < Ts.length := by
  refine Nat.lt_of_not_le fun hle => h ?_
  unfold tok
  rw [List.getD_eq_getElem?_getD, List.getElem?_eq_none hle]
  rfl
theorem isT_lt {kind : Int} {text : By} {i : Nat} (hk : kind ≠ 0) (h : isT Ts kind text i = true) : i < Ts.length := by
  unfold isT at h
  simp only [Bool.and_eq_true, beq_iff_eq] at h
  exact tok_lt (by rw [h.1]; exact hk)
theorem takeP_fwd {kind : Int} (i : Nat) (hk : kind ≠ 0) : Fwd Ts.length i (takeP Ts kind i) := by
  unfold takeP
  by_cases h : (tok Ts i).k = kind
  · rw [if_pos h]
    exact ⟨Nat.lt_succ_self _, tok_lt (by rw [h]; exact hk)⟩
  · rw [if_neg h]; trivial
theorem takeT_fwd {kind : Int} {text : By} (i : Nat) (hk : kind ≠ 0) : Fwd Ts.length i (takeT Ts kind text i) := by
  unfold takeT
  by_cases h : isT Ts kind text i = true
  · rw [if_pos h]
    exact ⟨Nat.lt_succ_self _, isT_lt hk h⟩
  · rw [if_neg h]; trivial
theorem okFw0 {α : Type} {n i : Nat} (a : α) (h : i ≤ n) : Fw0 n i (.ok a i) := ⟨Nat.le_refl _, h⟩
theorem partP_fwd {kind : Int} (c : CT) (i : Nat) (hk : kind ≠ 0) : Fwd Ts.length i (partP Ts kind c i) := by
  refine (takeP_fwd i hk).bind fun t j _ hj hn => ?_
  by_cases h5 : kind = 5
  · rw [if_pos h5]; exact okFw0 _ hn
  · rw [if_neg h5]
    by_cases h4 : kind = 4
    · rw [if_pos h4]
      by_cases h : isT Ts 7 [45] j = true
      · rw [if_pos h]
        exact (((takeP_fwd (j + 1) (by decide)).bind fun u l _ _ hl => okFw0 _ hl).fw0).le (Nat.le_succ _)
      · rw [if_neg h]; exact okFw0 _ hn
    · rw [if_neg h4]; exact okFw0 _ hn
theorem moreP_fwd {kind : Int} (hk : kind ≠ 0) : ∀ (f parts : Nat) (c : CT) (i : Nat), Ts.length - i < f → Fwd Ts.length i (moreP Ts kind f parts c i)
  | 0, _, _, _, h => by omega
  | f + 1, parts, c, i, h => by
    unfold moreP
    by_cases h1 : isT Ts 7 [44] i = true
    · rw [if_pos h1]
      have hi := isT_lt (by decide) h1
      by_cases h2 : parts = 32 ∧ (tok Ts (i + 1)).k = kind
      · rw [if_pos h2]; trivial
      · rw [if_neg h2]
        exact (Fwd.bind (partP_fwd c (i + 1) hk) fun c' j _ hj hn => (moreP_fwd hk f (parts + 1) c' j (by omega)).fw0).fw0.fwd (Nat.lt_succ_self _)
    · rw [if_neg h1]
      exact (takeT_fwd i (by decide)).bind fun _ j _ _ hn => okFw0 _ hn
theorem listP_fwd {kind : Int} (hk : kind ≠ 0) (f : Nat) (c : CT) (i : Nat) (h : Ts.length - i < f) : Fwd Ts.length i (listP Ts f kind c i) :=
  (takeT_fwd i (by decide)).bind fun _ j _ hj _ => ((takeT_fwd j (by decide)).bind fun _ l _ hl _ => ((partP_fwd c l hk).bind fun c' m _ hm _ => (moreP_fwd hk f 1 c' m (by omega)).fw0).fw0).fw0
theorem restP_fw0 (f : Nat) (c : CT) (i : Nat) (h : Ts.length - i < f) (hi : i ≤ Ts.length) : Fw0 Ts.length i (restP Ts f c i) := by
  unfold restP
  by_cases h7 : c.k = 7
  · rw [if_pos h7]; exact (listP_fwd (by decide) f c i h).fw0
  rw [if_neg h7]
  by_cases h8 : c.k = 8
  · rw [if_pos h8]; exact (listP_fwd (by decide) f c i h).fw0
  rw [if_neg h8]
  by_cases h9 : c.k = 9
  · rw [if_pos h9]; exact (listP_fwd (by decide) f c i h).fw0
  rw [if_neg h9]
  by_cases h10 : c.k = 10
  · rw [if_pos h10]
    exact ((takeT_fwd i (by decide)).bind fun _ j _ _ _ => ((takeP_fwd j (by decide)).bind fun t l _ _ hl => okFw0 _ hl).fw0).fw0
  rw [if_neg h10]
  by_cases h11 : c.k = 11
  · rw [if_pos h11]
    exact ((takeP_fwd i (by decide)).bind fun u g _ _ _ => ((takeT_fwd g (by decide)).bind fun _ j _ _ _ => ((takeP_fwd j (by decide)).bind fun t l _ _ hl => okFw0 _ hl).fw0).fw0).fw0
  rw [if_neg h11]
  by_cases h12 : c.k = 12
  · rw [if_pos h12]
    exact ((takeP_fwd i (by decide)).bind fun t l _ _ hl => okFw0 _ hl).fw0
  rw [if_neg h12]
  exact okFw0 _ hi
theorem overP_fw0 {n : Nat} (c : CT) (i : Nat) (hi : i ≤ n) : Fw0 n i (overP c i) := by
  unfold overP
  split
  · trivial
  · exact okFw0 _ hi
theorem rowP_fw0 {part : Nat → PR CT} {word : By} {kind : Int} : ∀ (f : Nat) (ks : List CT) (p : Int) (i : Nat), (∀ j, i < j → j ≤ Ts.length → Fwd Ts.length j (part j)) → Ts.length - i < f → i ≤ Ts.length → Fw0 Ts.length i (rowP Ts part word kind f ks p i)
  | 0, _, _, _, _, h, _ => by omega
  | f + 1, ks, p, i, hp, h, hi => by
    unfold rowP
    by_cases h1 : isT Ts 1 word i = true
    · rw [if_pos h1]
      have hl := isT_lt (by decide) h1
      by_cases h2 : ks.length = 32 ∧ begP Ts (i + 1) = true
      · rw [if_pos h2]; trivial
      · rw [if_neg h2]
        exact (((hp (i + 1) (Nat.lt_succ_self _) hl).bind fun c j _ hj hn => rowP_fw0 f (ks ++ [c]) p j (fun l h1 h2 => hp l (by omega) h2) (by omega) hn).fw0).le (Nat.le_succ _)
    · rw [if_neg h1]; exact overP_fw0 _ _ hi
theorem condP_fwd : ∀ (f place i : Nat), place ≤ 3 → i ≤ Ts.length → 4 * (Ts.length - i) + (3 - place) + 2 ≤ f → Fwd Ts.length i (condP Ts f place i)
  | 0, place, i, _, _, h => by omega
  | f + 1, 0, i, _, hi, h => by
    unfold condP
    refine (condP_fwd f 1 i (by decide) hi (by omega)).bind fun c j _ hj hn => ?_
    by_cases h1 : isT Ts 1 wOr j = true
    · rw [if_pos h1]
      exact rowP_fw0 f [c] c.p j (fun l h1 h2 => condP_fwd f 1 l (by decide) h2 (by omega)) (by omega) hn
    · rw [if_neg h1]; exact okFw0 _ hn
  | f + 1, 1, i, _, hi, h => by
    unfold condP
    refine (condP_fwd f 2 i (by decide) hi (by omega)).bind fun c j _ hj hn => ?_
    by_cases h1 : isT Ts 1 wAnd j = true
    · rw [if_pos h1]
      exact rowP_fw0 f [c] c.p j (fun l h1 h2 => condP_fwd f 2 l (by decide) h2 (by omega)) (by omega) hn
    · rw [if_neg h1]; exact okFw0 _ hn
  | f + 1, 2, i, _, hi, h => by
    rw [condP_two]
    by_cases h1 : isT Ts 1 wNot i = true
    · rw [if_pos h1]
      have hl := isT_lt (by decide) h1
      exact ((condP_fwd f 2 (i + 1) (by decide) hl (by omega)).bind fun c j _ hj hn => overP_fw0 _ _ hn).fw0.fwd (Nat.lt_succ_self _)
    · rw [if_neg h1]
      exact condP_fwd f 3 i (by decide) hi (by omega)
  | f + 1, 3, i, _, hi, h => by
    rw [condP_three]
    by_cases h1 : isT Ts 7 [40] i = true
    · rw [if_pos h1]
      have hl := isT_lt (by decide) h1
      exact ((condP_fwd f 0 (i + 1) (by decide) hl (by omega)).bind fun c j _ hj hn => ((takeT_fwd j (by decide)).bind fun _ l _ _ hl => okFw0 _ hl).fw0).fw0.fwd (Nat.lt_succ_self _)
    · rw [if_neg h1]
      by_cases h2 : (tok Ts i).k = 2
      · rw [if_pos h2]
        exact ⟨Nat.lt_succ_self _, tok_lt (by rw [h2]; decide)⟩
      · rw [if_neg h2]
        by_cases h3 : testAt Ts i = 0
        · rw [if_pos h3]; trivial
        · rw [if_neg h3]
          have hl : i < Ts.length := by
            refine Nat.lt_of_not_le fun hle => h3 ?_
            have e : ∀ t, isT Ts 1 t i = false := fun t => by
              cases hh : isT Ts 1 t i with
              | false => rfl
              | true => exact absurd (isT_lt (by decide) hh) (Nat.not_lt.2 hle)
            have : ∀ n k, kindAt Ts tWord i n k = 0 := fun n => by
              induction n with
              | zero => intro k; rfl
              | succ n ih => intro k; unfold kindAt; rw [e, ih]; rfl
            exact this _ _
          exact (restP_fw0 f _ (i + 1) (by omega) hl).fwd (Nat.lt_succ_self _)
  | f + 1, n + 4, i, h, _, _ => by omega
theorem itemP_fwd (f kind i : Nat) (hf : 4 * Ts.length + 5 ≤ f) : Fwd Ts.length i (itemP Ts f kind i) := by
  refine (takeP_fwd i (by decide)).bind fun t j _ _ _ => ((takeP_fwd j (by decide)).bind fun u l _ _ _ => Fw0.bind (i := l) ?_ fun _ m _ _ hm => ((condP_fwd f 0 m (by decide) hm (by omega)).bind fun c n _ _ _ => ((takeT_fwd n (by decide)).bind fun _ o _ _ ho => okFw0 _ ho).fw0).fw0).fw0
  split
  · exact (takeT_fwd l (by decide)).fw0
  · exact (takeT_fwd l (by decide)).fw0
theorem polP_fw0 : ∀ (f : Nat) (L : List IT) (i : Nat), (Ts.length - i) + 4 * Ts.length + 6 ≤ f → i ≤ Ts.length → Fw0 Ts.length i (polP Ts f L i)
  | 0, _, _, h, _ => by omega
  | f + 1, L, i, h, hi => by
    unfold polP
    by_cases h8 : (tok Ts i).k = 8
    · rw [if_pos h8]; exact okFw0 _ hi
    · rw [if_neg h8]
      by_cases h0 : itemAt Ts i = 0
      · rw [if_pos h0]; trivial
      · rw [if_neg h0]
        by_cases h1 : L.length = 100
        · rw [if_pos h1]; trivial
        · rw [if_neg h1]
          exact ((itemP_fwd f (itemAt Ts i) i (by omega)).bind fun x j _ hj hn => polP_fw0 f (L ++ [x]) j (by omega) hn).fw0
end
/-- Reading. -/
def parseP (Ts : List Tk) : PR (List IT) := polP Ts (5 * Ts.length + 6) [] 0
end Go.Proofs.YtlmhofjiobmodaaGreatDoor
