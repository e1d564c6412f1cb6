/-
  The pure reader and its fuel; a semicolon is no part of a condition. Of no program: no condition.
-/
import Derived.Test.YtlmhofjiobmodaaGreatDoorQ45
namespace Go.Proofs.YtlmhofjiobmodaaGreatDoor

def Lq {α : Type} (r r' : PR α) : Prop := r = .out ∨ r = r'
theorem Lq.refl {α : Type} (r : PR α) : Lq r r := .inr rfl
theorem Lq.bind {α β : Type} {x x' : PR α} {f f' : α → Nat → PR β} (h : Lq x x') (hf : ∀ a i, x = .ok a i → Lq (f a i) (f' a i)) : Lq (x.bind f) (x'.bind f') := by
  rcases h with rfl | rfl
  · exact .inl rfl
  · cases x with
    | ok a i => exact hf a i rfl
    | bad e p => exact .inr rfl
    | out => exact .inl rfl
theorem Lq.ite {α : Type} {p : Prop} [Decidable p] {a a' b b' : PR α} (h1 : Lq a a') (h2 : Lq b b') : Lq (if p then a else b) (if p then a' else b') := by
  split
  · exact h1
  · exact h2
section
variable {T : List Tk}
theorem moreP_lq {kind : Int} : ∀ (f parts : Nat) (c : CT) (i : Nat), Lq (moreP T kind f parts c i) (moreP T kind (f + 1) parts c i)
  | 0, _, _, _ => .inl rfl
  | f + 1, parts, c, i => by
    rw [moreP, moreP]
    exact Lq.ite (Lq.ite (Lq.refl _) (Lq.bind (Lq.refl _) fun d j _ => moreP_lq f (parts + 1) d j)) (Lq.refl _)
theorem listP_lq {kind : Int} (f : Nat) (c : CT) (i : Nat) : Lq (listP T f kind c i) (listP T (f + 1) kind c i) :=
  Lq.bind (Lq.refl _) fun _ _ _ => Lq.bind (Lq.refl _) fun _ _ _ => Lq.bind (Lq.refl _) fun d j _ => moreP_lq f 1 d j
theorem restP_lq (f : Nat) (c : CT) (i : Nat) : Lq (restP T f c i) (restP T (f + 1) c i) :=
  Lq.ite (listP_lq _ _ _) (Lq.ite (listP_lq _ _ _) (Lq.ite (listP_lq _ _ _) (Lq.refl _)))
theorem rowP_lq {part part' : Nat → PR CT} {word : By} {kind : Int} (hp : ∀ i, Lq (part i) (part' i)) : ∀ (f : Nat) (ks : List CT) (p : Int) (i : Nat), Lq (rowP T part word kind f ks p i) (rowP T part' word kind (f + 1) ks p i)
  | 0, _, _, _ => .inl rfl
  | f + 1, ks, p, i => by
    rw [rowP, rowP]
    exact Lq.ite (Lq.ite (Lq.refl _) (Lq.bind (hp _) fun d j _ => rowP_lq hp f (ks ++ [d]) p j)) (Lq.refl _)
theorem condP_high (f n i : Nat) : condP T (f + 1) (n + 3) i = if isT T 7 [40] i = true then (condP T f 0 (i + 1)).bind fun c j => (takeT T 7 [41] j).bind fun _ l => .ok c l
      else if (tok T i).k = 2 then .ok (.mk 3 (tok T i).t [] [] [] [] [] (tok T i).p) (i + 1)
      else if testAt T i = 0 then .bad 90 (tok T i).p
      else restP T f (.mk (testAt T i : Nat) [] [] [] [] [] [] (tok T i).p) (i + 1) := by cases n <;> rfl
theorem condP_lq : ∀ (f place i : Nat), Lq (condP T f place i) (condP T (f + 1) place i)
  | 0, _, _ => .inl rfl
  | f + 1, 0, i => by
    rw [condP_zero, condP_zero]
    exact Lq.bind (condP_lq f 1 i) fun c j _ => Lq.ite (rowP_lq (fun l => condP_lq f 1 l) f [c] c.p j) (Lq.refl _)
  | f + 1, 1, i => by
    rw [condP_one, condP_one]
    exact Lq.bind (condP_lq f 2 i) fun c j _ => Lq.ite (rowP_lq (fun l => condP_lq f 2 l) f [c] c.p j) (Lq.refl _)
  | f + 1, 2, i => by
    rw [condP_two, condP_two]
    exact Lq.ite (Lq.bind (condP_lq f 2 (i + 1)) fun c j _ => Lq.refl _) (condP_lq f 3 i)
  | f + 1, n + 3, i => by
    rw [condP_high, condP_high]
    exact Lq.ite (Lq.bind (condP_lq f 0 (i + 1)) fun c j _ => Lq.refl _) (Lq.ite (Lq.refl _) (Lq.ite (Lq.refl _) (restP_lq _ _ _)))
theorem itemP_lq (f kind i : Nat) : Lq (itemP T f kind i) (itemP T (f + 1) kind i) :=
  Lq.bind (Lq.refl _) fun _ _ _ => Lq.bind (Lq.refl _) fun _ _ _ => Lq.bind (Lq.refl _) fun _ _ _ => Lq.bind (condP_lq _ _ _) fun _ _ _ => Lq.refl _
theorem polP_lq : ∀ (f : Nat) (L : List IT) (i : Nat), Lq (polP T f L i) (polP T (f + 1) L i)
  | 0, _, _ => .inl rfl
  | f + 1, L, i => by
    rw [polP, polP]
    exact Lq.ite (Lq.refl _) (Lq.ite (Lq.refl _) (Lq.ite (Lq.refl _) (Lq.bind (itemP_lq _ _ _) fun x j _ => polP_lq f _ j)))
theorem polP_more {L : List IT} {i f : Nat} (h : polP T f L i ≠ .out) : ∀ d, polP T (f + d) L i = polP T f L i
  | 0 => rfl
  | d + 1 => by
    have ih := polP_more h d
    rcases polP_lq (T := T) (f + d) L i with e | e
    · exact absurd (ih ▸ e) h
    · rw [← ih]; exact e.symm
/-- With whatever fuel is enough. -/
theorem parseP_fuel {f : Nat} (h : 5 * T.length + 6 ≤ f) : polP T f [] 0 = parseP T := by
  have := polP_more (T := T) (L := []) (i := 0) (f := 5 * T.length + 6) (polP_fw0 (5 * T.length + 6) [] 0 (by omega) (by omega)).ne (f - (5 * T.length + 6))
  rw [show 5 * T.length + 6 + (f - (5 * T.length + 6)) = f by omega] at this
  exact this
theorem parseP_ne : parseP T ≠ .out := (polP_fw0 (5 * T.length + 6) [] 0 (by omega) (by omega)).ne
/-- No semicolon was taken. -/
def Nsc {α : Type} (q a : Nat) (r : PR α) : Prop := ∀ c j, r = .ok c j → a ≤ q → j ≤ q
theorem Nsc.bind {α β : Type} {q a : Nat} {x : PR α} {f : α → Nat → PR β} (h : Nsc q a x) (hf : ∀ c j, x = .ok c j → Nsc q j (f c j)) : Nsc q a (x.bind f) := by
  intro c j e ha
  obtain ⟨d, i, h1, h2⟩ := PR.bind_ok e
  exact hf d i h1 c j h2 (h d i h1 ha)
theorem Nsc.ok {α : Type} {q a : Nat} (c : α) : Nsc q a (.ok c a) := fun c j e ha => by cases e; exact ha
theorem Nsc.bad {α : Type} {q a : Nat} (e p : Int) : Nsc (α := α) q a (.bad e p) := fun c j e ha => by cases e
theorem Nsc.out {α : Type} {q a : Nat} : Nsc (α := α) q a .out := fun c j e ha => by cases e
theorem Nsc.ite {α : Type} {q a : Nat} {p : Prop} [Decidable p] {x y : PR α} (h1 : p → Nsc q a x) (h2 : ¬ p → Nsc q a y) : Nsc q a (if p then x else y) := by
  split
  · exact h1 (by assumption)
  · exact h2 (by assumption)
/-- That token is taken. -/
theorem Nsc.step {α : Type} {q a : Nat} {r : PR α} (hq : isT T 7 [59] q = true) (hn : isT T 7 [59] a ≠ true) (h : Nsc q (a + 1) r) : Nsc q a r := fun c j e ha => h c j e (by
  rcases Nat.lt_or_ge a q with h1 | h1
  · exact h1
  · obtain rfl : a = q := by omega
    exact absurd hq hn)
theorem isT_not {k : Int} {t : By} {i : Nat} (h : isT T k t i = true) (hn : k ≠ 7 ∨ t ≠ [59]) : isT T 7 [59] i ≠ true := fun h2 => by
  unfold isT at h h2
  simp only [Bool.and_eq_true, beq_iff_eq] at h h2
  rcases hn with e | e
  · exact e (h.1.symm.trans h2.1)
  · exact e (h.2.symm.trans h2.2)
theorem tok_not {k : Int} {i : Nat} (h : (tok T i).k = k) (hn : k ≠ 7) : isT T 7 [59] i ≠ true := fun h2 => by
  unfold isT at h2
  simp only [Bool.and_eq_true, beq_iff_eq] at h2
  exact hn (h.symm.trans h2.1)
variable {q : Nat}
theorem takeP_nsc (hq : isT T 7 [59] q = true) {kind : Int} (hk : kind ≠ 7) (a : Nat) : Nsc q a (takeP T kind a) :=
  Nsc.ite (fun h => (Nsc.ok _).step hq (tok_not h hk)) (fun _ => Nsc.bad _ _)
theorem takeT_nsc (hq : isT T 7 [59] q = true) {kind : Int} {text : By} (hk : kind ≠ 7 ∨ text ≠ [59]) (a : Nat) : Nsc q a (takeT T kind text a) :=
  Nsc.ite (fun h => (Nsc.ok _).step hq (isT_not h hk)) (fun _ => Nsc.bad _ _)
theorem partP_nsc (hq : isT T 7 [59] q = true) {kind : Int} (hk : kind ≠ 7) (c : CT) (a : Nat) : Nsc q a (partP T kind c a) :=
  (takeP_nsc hq hk a).bind fun _ j _ => Nsc.ite (fun _ => Nsc.ok _) fun _ => Nsc.ite (fun _ => Nsc.ite (fun h => ((takeP_nsc hq (by decide) (j + 1)).bind fun _ _ _ => Nsc.ok _).step hq (isT_not h (.inr (by decide)))) fun _ => Nsc.ok _) fun _ => Nsc.ok _
theorem moreP_nsc (hq : isT T 7 [59] q = true) {kind : Int} (hk : kind ≠ 7) : ∀ (f parts : Nat) (c : CT) (a : Nat), Nsc q a (moreP T kind f parts c a)
  | 0, _, _, _ => Nsc.out
  | f + 1, parts, c, a => by
    rw [moreP]
    exact Nsc.ite (fun h => Nsc.step hq (isT_not h (.inr (by decide))) (Nsc.ite (fun _ => Nsc.bad _ _) fun _ => (partP_nsc hq hk c (a + 1)).bind fun d j _ => moreP_nsc hq hk f (parts + 1) d j)) fun _ => (takeT_nsc hq (.inr (by decide)) a).bind fun _ _ _ => Nsc.ok _
theorem listP_nsc (hq : isT T 7 [59] q = true) {kind : Int} (hk : kind ≠ 7) (f : Nat) (c : CT) (a : Nat) : Nsc q a (listP T f kind c a) :=
  (takeT_nsc hq (.inl (by decide)) a).bind fun _ j _ => (takeT_nsc hq (.inr (by decide)) j).bind fun _ l _ => (partP_nsc hq hk c l).bind fun d m _ => moreP_nsc hq hk f 1 d m
theorem restP_nsc (hq : isT T 7 [59] q = true) (f : Nat) (c : CT) (a : Nat) : Nsc q a (restP T f c a) :=
  Nsc.ite (fun _ => listP_nsc hq (by decide) f c a) fun _ => Nsc.ite (fun _ => listP_nsc hq (by decide) f c a) fun _ => Nsc.ite (fun _ => listP_nsc hq (by decide) f c a) fun _ =>
  Nsc.ite (fun _ => (takeT_nsc hq (.inr (by decide)) a).bind fun _ j _ => (takeP_nsc hq (by decide) j).bind fun _ _ _ => Nsc.ok _) fun _ =>
  Nsc.ite (fun _ => (takeP_nsc hq (by decide) a).bind fun _ j _ => (takeT_nsc hq (.inr (by decide)) j).bind fun _ l _ => (takeP_nsc hq (by decide) l).bind fun _ _ _ => Nsc.ok _) fun _ =>
  Nsc.ite (fun _ => (takeP_nsc hq (by decide) a).bind fun _ j _ => Nsc.ok _) fun _ => Nsc.ok _
theorem overP_nsc (c : CT) (a : Nat) : Nsc q a (overP c a) := Nsc.ite (fun _ => Nsc.bad _ _) fun _ => Nsc.ok _
theorem rowP_nsc (hq : isT T 7 [59] q = true) {part : Nat → PR CT} {word : By} {kind : Int} (hp : ∀ i, Nsc q i (part i)) : ∀ (f : Nat) (ks : List CT) (p : Int) (a : Nat), Nsc q a (rowP T part word kind f ks p a)
  | 0, _, _, _ => Nsc.out
  | f + 1, ks, p, a => by
    rw [rowP]
    exact Nsc.ite (fun h => Nsc.step hq (isT_not h (.inl (by decide))) (Nsc.ite (fun _ => Nsc.bad _ _) fun _ => (hp (a + 1)).bind fun d j _ => rowP_nsc hq hp f (ks ++ [d]) p j)) fun _ => overP_nsc _ _
theorem condP_nsc (hq : isT T 7 [59] q = true) : ∀ (f place i : Nat), Nsc q i (condP T f place i)
  | 0, _, _ => Nsc.out
  | f + 1, 0, i => by
    rw [condP_zero]
    exact (condP_nsc hq f 1 i).bind fun c j _ => Nsc.ite (fun _ => rowP_nsc hq (fun l => condP_nsc hq f 1 l) f [c] c.p j) fun _ => Nsc.ok _
  | f + 1, 1, i => by
    rw [condP_one]
    exact (condP_nsc hq f 2 i).bind fun c j _ => Nsc.ite (fun _ => rowP_nsc hq (fun l => condP_nsc hq f 2 l) f [c] c.p j) fun _ => Nsc.ok _
  | f + 1, 2, i => by
    rw [condP_two]
    exact Nsc.ite (fun h => Nsc.step hq (isT_not h (.inl (by decide))) ((condP_nsc hq f 2 (i + 1)).bind fun c j _ => overP_nsc _ _)) fun _ => condP_nsc hq f 3 i
  | f + 1, n + 3, i => by
    rw [condP_high]
    exact Nsc.ite (fun h => Nsc.step hq (isT_not h (.inr (by decide))) ((condP_nsc hq f 0 (i + 1)).bind fun c j _ => (takeT_nsc hq (.inr (by decide)) j).bind fun _ _ _ => Nsc.ok _)) fun _ => Nsc.ite (fun h => (Nsc.ok _).step hq (tok_not h (by decide))) fun _ => Nsc.ite (fun _ => Nsc.bad _ _) fun h => (restP_nsc hq f _ (i + 1)).step hq (tok_not (kindAt_ne h) (by decide))
end
end Go.Proofs.YtlmhofjiobmodaaGreatDoor
/-
  Two rows of tokens that are alike up to a place are read alike up to it. Of no program: no condition.
-/
namespace Go.Proofs.YtlmhofjiobmodaaGreatDoor

/-- Alike ahead of k, and at k, but that the second may have its end there. -/
structure Agr (T V : List Tk) (k E : Nat) : Prop where
  lo : ∀ i, i < k → tok V i = tok T i
  hi : tok V k = tok T k ∨ (tok V k).k = 8
  pl : (tok V k).p = (tok T k).p
  le : k ≤ E
  up : Up T E
/-- Tokens behind k were looked at. -/
def Bey {α : Type} (T : List Tk) (k E : Nat) (r : PR α) : Prop := match r with
  | .ok _ j => k < j
  | .bad e p => (e = 91 ∧ isT T 7 [59] k ≠ true) ∨ ∃ i, k < i ∧ i ≤ E ∧ p = (tok T i).p
  | .out => True
def Rel {α : Type} (T V : List Tk) (k E : Nat) (r r' : PR α) : Prop :=
  Bey T k E r ∨ r' = r ∨ r' = .out ∨ ((tok V k).k = 8 ∧ (∃ e : Int, (e = 90 ∨ e = 92) ∧ r = .bad e (tok T k).p) ∧ r' = .bad 90 (tok T k).p)
def Fr2 (T : List Tk) (E i : Nat) (r : PR CT) : Prop := match r with
  | .ok _ j => i ≤ j
  | .bad e p => e = 91 ∨ ∃ l, i ≤ l ∧ l ≤ E ∧ p = (tok T l).p
  | .out => True
section
variable {T V : List Tk} {k E : Nat}
theorem Frm.bey {α : Type} {φ : α → Prop} {a : Nat} {r : PR α} (h : Frm T E φ a r) (hk : k < a) : Bey T k E r := by
  cases r with
  | ok c j => exact Nat.lt_of_lt_of_le hk h.1
  | bad e p =>
    obtain ⟨_, i, h1, h2, h3, _⟩ := h
    exact .inr ⟨i, Nat.lt_of_lt_of_le hk h1, h2, h3⟩
  | out => trivial
theorem Fr2.bey {a : Nat} {r : PR CT} (h : Fr2 T E a r) (hk : k < a) (hb : isT T 7 [59] k ≠ true) : Bey T k E r := by
  cases r with
  | ok c j => exact Nat.lt_of_lt_of_le hk h
  | bad e p =>
    rcases h with rfl | ⟨i, h1, h2, h3⟩
    · exact .inl ⟨rfl, hb⟩
    · exact .inr ⟨i, Nat.lt_of_lt_of_le hk h1, h2, h3⟩
  | out => trivial
theorem overP_fr2 (c : CT) (i : Nat) : Fr2 T E i (overP c i) := by
  unfold overP
  split
  · exact .inl rfl
  · exact Nat.le_refl _
theorem rowP_fr2 (hu : Up T E) {part : Nat → PR CT} {word : By} {kind : Int} (hpt : ∀ j, j ≤ E → Frm T E (Plc T E j) j (part j)) : ∀ (f : Nat) (ks : List CT) (p : Int) (i : Nat), i ≤ E → Fr2 T E i (rowP T part word kind f ks p i)
  | 0, _, _, _, _ => trivial
  | f + 1, ks, p, i, h2 => by
    unfold rowP
    split
    · rename_i h
      have hn := hu.isT h2 (by decide) h
      split
      · exact .inr ⟨i + 1, by omega, hn, rfl⟩
      · have hp := hpt (i + 1) hn
        cases hx : part (i + 1) with
        | ok c j =>
          rw [hx] at hp
          have := rowP_fr2 hu hpt (word := word) (kind := kind) f (ks ++ [c]) p j hp.2.1
          have h1 : i + 1 ≤ j := hp.1
          show Fr2 T E i (rowP T part word kind f (ks ++ [c]) p j)
          revert this
          cases rowP T part word kind f (ks ++ [c]) p j with
          | ok d l => intro h; exact Nat.le_trans (by omega) h
          | bad e q =>
            rintro (h | ⟨l, q1, q2⟩)
            · exact .inl h
            · exact .inr ⟨l, by omega, q2⟩
          | out => intro _; trivial
        | bad e q =>
          rw [hx] at hp
          obtain ⟨_, l, q1, q2, q3, _⟩ := hp
          exact .inr ⟨l, by omega, q2, q3⟩
        | out => trivial
    · exact overP_fr2 _ _
theorem Rel.rfl' {α : Type} (r : PR α) : Rel T V k E r r := .inr (.inl rfl)
theorem Rel.bind {α β : Type} {x x' : PR α} {f f' : α → Nat → PR β} (h : Rel T V k E x x') (hle : ∀ c j, x = .ok c j → j ≤ k → Rel T V k E (f c j) (f' c j)) (hgt : ∀ c j, x = .ok c j → k < j → Bey T k E (f c j)) : Rel T V k E (x.bind f) (x'.bind f') := by
  rcases h with h | rfl | rfl | ⟨h1, ⟨e, h2, rfl⟩, rfl⟩
  · cases x with
    | ok c j => exact .inl (hgt c j rfl h)
    | bad e p => exact .inl h
    | out => exact .inl trivial
  · cases x' with
    | ok c j =>
      rcases Nat.lt_or_ge k j with hj | hj
      · exact .inl (hgt c j rfl hj)
      · exact hle c j rfl hj
    | bad e p => exact .inr (.inl rfl)
    | out => exact .inl trivial
  · exact .inr (.inr (.inl rfl))
  · exact .inr (.inr (.inr ⟨h1, ⟨e, h2, rfl⟩, rfl⟩))
variable (hA : Agr T V k E)
include hA
theorem isT_lo {kd : Int} {tx : By} {i : Nat} (hi : i < k) : isT V kd tx i = isT T kd tx i := by
  unfold isT
  rw [hA.lo i hi]
theorem isT_at {kd : Int} {tx : By} (h8 : kd ≠ 8) : isT V kd tx k = isT T kd tx k ∨ isT V kd tx k ≠ true := by
  rcases hA.hi with h | h
  · exact .inl (by unfold isT; rw [h])
  · refine .inr fun h2 => ?_
    unfold isT at h2
    simp only [Bool.and_eq_true, beq_iff_eq] at h2
    exact h8 (h2.1.symm.trans h)
theorem plc_eq {i : Nat} (hi : i ≤ k) : (tok V i).p = (tok T i).p := by
  rcases Nat.lt_or_ge i k with h | h
  · rw [hA.lo i h]
  · obtain rfl : i = k := by omega
    exact hA.pl
theorem Rel.test {α : Type} {x x' y y' : PR α} {kd : Int} {tx : By} {i : Nat} (hi : i ≤ k) (h8 : kd ≠ 8) (hlt : i < k → isT T kd tx i = true → Rel T V k E x x') (hno : isT T kd tx i ≠ true → Rel T V k E y y') (hb : i = k → isT T kd tx k = true → Bey T k E x) :
    Rel T V k E (if isT T kd tx i = true then x else y) (if isT V kd tx i = true then x' else y') := by
  rcases Nat.lt_or_ge i k with h | h
  · rw [isT_lo hA h]
    split
    · exact hlt h (by assumption)
    · exact hno (by assumption)
  · obtain rfl : i = k := by omega
    by_cases ht : isT T kd tx i = true
    · rw [if_pos ht]
      exact .inl (hb rfl ht)
    · rw [if_neg ht, if_neg (by rcases isT_at hA h8 with e | e; rw [e]; exact ht; exact e)]
      exact hno ht
theorem takeT_rel {kd : Int} {tx : By} {i : Nat} (hi : i ≤ k) (h8 : kd ≠ 8) : Rel T V k E (takeT T kd tx i) (takeT V kd tx i) := by
  unfold takeT
  rw [plc_eq hA hi]
  exact Rel.test hA hi h8 (fun _ _ => Rel.rfl' _) (fun _ => Rel.rfl' _) (fun e _ => by subst e; exact Nat.lt_succ_self _)
theorem Rel.kind {α : Type} {x x' y y' : PR α} {kd : Int} {i : Nat} (hi : i ≤ k) (h8 : kd ≠ 8) (hlt : i < k → (tok T i).k = kd → Rel T V k E x x') (hno : (tok T i).k ≠ kd → Rel T V k E y y') (hb : i = k → (tok T k).k = kd → Bey T k E x) :
    Rel T V k E (if (tok T i).k = kd then x else y) (if (tok V i).k = kd then x' else y') := by
  rcases Nat.lt_or_ge i k with h | h
  · rw [hA.lo i h]
    split
    · exact hlt h (by assumption)
    · exact hno (by assumption)
  · obtain rfl : i = k := by omega
    by_cases ht : (tok T i).k = kd
    · rw [if_pos ht]
      exact .inl (hb rfl ht)
    · rw [if_neg ht, if_neg (by rcases hA.hi with e | e; rw [e]; exact ht; rw [e]; exact h8.symm)]
      exact hno ht
theorem takeP_rel {kd : Int} {i : Nat} (hi : i ≤ k) (h8 : kd ≠ 8) : Rel T V k E (takeP T kd i) (takeP V kd i) := by
  unfold takeP
  rw [plc_eq hA hi]
  exact Rel.kind hA hi h8 (fun h _ => by rw [hA.lo i h]; exact Rel.rfl' _) (fun _ => Rel.rfl' _) (fun e _ => by subst e; exact Nat.lt_succ_self _)
theorem partP_rel {kind : Int} (h8 : kind ≠ 8) (c : CT) {i : Nat} (hi : i ≤ k) : Rel T V k E (partP T kind c i) (partP V kind c i) := by
  unfold partP
  refine (takeP_rel hA hi h8).bind (fun t j _ hj => ?_) (fun t j e hj => ?_)
  · split
    · exact Rel.rfl' _
    · split
      · refine Rel.test hA hj (by decide) (fun h _ => (takeP_rel hA h (by decide)).bind (fun _ _ _ _ => Rel.rfl' _) (fun _ _ _ h => h)) (fun _ => Rel.rfl' _) (fun e h => ?_)
        subst e
        exact Frm.bey (φ := fun _ => True) ((takeP_frm hA.up (by decide) (hA.up.isT hA.le (by decide) h)).bind (Nat.le_refl _) fun u l _ g1 g2 _ => ⟨g1, g2, trivial⟩) (Nat.lt_succ_self _)
      · exact Rel.rfl' _
  · have hf := takeP_frm hA.up h8 (Nat.le_trans hi hA.le)
    rw [e] at hf
    have hE : j ≤ E := hf.2.1
    split
    · exact hj
    · split
      · split
        · rename_i h
          exact Frm.bey (φ := fun _ => True) ((takeP_frm hA.up (by decide) (hA.up.isT hE (by decide) h)).bind (Nat.le_refl _) fun u l _ g1 g2 _ => ⟨g1, g2, trivial⟩) (by omega)
        · exact hj
      · exact hj
omit hA in
theorem takeP_end {kind : Int} (h8 : kind ≠ 8) (hV : (tok V k).k = 8) : takeP V kind k = .bad 90 (tok V k).p := by
  unfold takeP
  rw [if_neg (by rw [hV]; exact h8.symm)]
theorem moreP_rel {kind : Int} (h8 : kind ≠ 8) : ∀ (f parts : Nat) (c : CT) {i : Nat}, i ≤ k → Rel T V k E (moreP T kind f parts c i) (moreP V kind f parts c i)
  | 0, _, _, _, _ => Rel.rfl' _
  | f + 1, parts, c, i, hi => by
    rw [moreP, moreP]
    refine Rel.test hA hi (by decide) (fun h _ => ?_) (fun _ => (takeT_rel hA hi (by decide)).bind (fun _ _ _ _ => Rel.rfl' _) (fun _ _ _ h => h)) (fun e h => ?_)
    · have go : Rel T V k E ((partP T kind c (i + 1)).bind fun c' j => moreP T kind f (parts + 1) c' j) ((partP V kind c (i + 1)).bind fun c' j => moreP V kind f (parts + 1) c' j) := by
        refine (partP_rel hA h8 c h).bind (fun d j _ hj => moreP_rel h8 f (parts + 1) d hj) (fun d j e hj => ?_)
        have hf := partP_frm hA.up h8 c (a := i + 1) (Nat.le_trans h hA.le)
        rw [e] at hf
        exact (moreP_frm hA.up h8 f (parts + 1) d hf.2.1).bey hj
      by_cases hp : parts = 32
      · subst hp
        simp only [true_and]
        rw [plc_eq hA h]
        rcases Nat.lt_or_ge (i + 1) k with h1 | h1
        · rw [hA.lo _ h1]
          split
          · exact Rel.rfl' _
          · exact go
        · obtain rfl : i + 1 = k := by omega
          rcases hA.hi with e | e
          · rw [e]
            split
            · exact Rel.rfl' _
            · exact go
          · rw [if_neg (show ¬ (tok V (i + 1)).k = kind by rw [e]; exact h8.symm)]
            split
            · refine .inr (.inr (.inr ⟨e, ⟨92, .inr rfl, rfl⟩, ?_⟩))
              unfold partP
              rw [takeP_end h8 e, hA.pl]
              rfl
            · exact go
      · rw [if_neg (fun h => hp h.1), if_neg (fun h => hp h.1)]
        exact go
    · subst e
      have hn := hA.up.isT hA.le (by decide) h
      split
      · exact .inr ⟨i + 1, Nat.lt_succ_self _, hn, rfl⟩
      · exact Frm.bey (φ := fun _ => True) ((partP_frm hA.up h8 c hn).bind (Nat.le_refl _) fun d j _ g1 g2 g3 => (moreP_frm hA.up h8 f (parts + 1) d g2).le g1 (fun _ _ => trivial)) (Nat.lt_succ_self _)
theorem listP_rel {kind : Int} (h8 : kind ≠ 8) (f : Nat) (c : CT) {i : Nat} (hi : i ≤ k) : Rel T V k E (listP T f kind c i) (listP V f kind c i) := by
  unfold listP
  have g0 := takeT_frm hA.up (kind := 1) (text := wIn) (by decide) (Nat.le_trans hi hA.le)
  refine (takeT_rel hA hi (by decide)).bind (fun _ j _ hj => (takeT_rel hA hj (by decide)).bind (fun _ l _ hl => (partP_rel hA h8 c hl).bind (fun d m _ hm => moreP_rel hA h8 f 1 d hm) (fun d m e hm => ?_)) (fun _ l e hl => ?_)) (fun _ j e hj => ?_)
  · have hf := partP_frm hA.up h8 c (a := l) (Nat.le_trans hl hA.le)
    rw [e] at hf
    exact (moreP_frm hA.up h8 f 1 d hf.2.1).bey hm
  · have hf := takeT_frm hA.up (kind := 7) (text := [123]) (by decide) (a := j) (Nat.le_trans hj hA.le)
    rw [e] at hf
    exact Frm.bey (φ := fun _ => True) ((partP_frm hA.up h8 c hf.2.1).bind (Nat.le_refl _) fun d j _ g1 g2 g3 => (moreP_frm hA.up h8 f 1 d g2).le g1 (fun _ _ => trivial)) hl
  · rw [e] at g0
    exact Frm.bey (φ := fun _ => True) ((takeT_frm hA.up (by decide) g0.2.1).bind (Nat.le_refl _) fun _ l _ k1 k2 _ => (partP_frm hA.up h8 c k2).bind k1 fun d j _ g1 g2 g3 => (moreP_frm hA.up h8 f 1 d g2).le (by omega) (fun _ _ => trivial)) hj
theorem restP_rel (f : Nat) (c : CT) {i : Nat} (hi : i ≤ k) : Rel T V k E (restP T f c i) (restP V f c i) := by
  unfold restP
  split
  · exact listP_rel hA (by decide) f c hi
  split
  · exact listP_rel hA (by decide) f c hi
  split
  · exact listP_rel hA (by decide) f c hi
  split
  · have g0 := takeT_frm hA.up (kind := 7) (text := [126]) (by decide) (Nat.le_trans hi hA.le)
    refine (takeT_rel hA hi (by decide)).bind (fun _ j _ hj => (takeP_rel hA hj (by decide)).bind (fun _ l _ hl => Rel.rfl' _) (fun _ l e hl => hl)) (fun _ j e hj => ?_)
    rw [e] at g0
    exact Frm.bey (φ := fun _ => True) ((takeP_frm hA.up (by decide) g0.2.1).bind (Nat.le_refl _) fun _ l _ k1 k2 _ => ⟨k1, k2, trivial⟩) hj
  split
  · have g0 := takeP_frm hA.up (kind := 6) (by decide) (Nat.le_trans hi hA.le)
    refine (takeP_rel hA hi (by decide)).bind (fun u j _ hj => (takeT_rel hA hj (by decide)).bind (fun _ l _ hl => (takeP_rel hA hl (by decide)).bind (fun _ l _ hl => Rel.rfl' _) (fun _ l e hl => hl)) (fun _ l e hl => ?_)) (fun _ j e hj => ?_)
    · have hf := takeT_frm hA.up (kind := 7) (text := [126]) (by decide) (a := j) (Nat.le_trans hj hA.le)
      rw [e] at hf
      exact Frm.bey (φ := fun _ => True) ((takeP_frm hA.up (by decide) hf.2.1).bind (Nat.le_refl _) fun _ l _ k1 k2 _ => ⟨k1, k2, trivial⟩) hl
    · rw [e] at g0
      exact Frm.bey (φ := fun _ => True) ((takeT_frm hA.up (by decide) g0.2.1).bind (Nat.le_refl _) fun _ l _ k1 k2 _ => (takeP_frm hA.up (by decide) k2).bind k1 fun _ m _ l1 l2 _ => ⟨by omega, l2, trivial⟩) hj
  split
  · exact (takeP_rel hA hi (by decide)).bind (fun u j _ hj => Rel.rfl' _) (fun _ l e hl => hl)
  · exact Rel.rfl' _
omit hA in
theorem isT_end {kd : Int} {tx : By} (h8 : kd ≠ 8) (hV : (tok V k).k = 8) : isT V kd tx k = false := by
  unfold isT
  rw [hV, show ((8 : Int) == kd) = false by simpa using h8.symm]
  rfl
omit hA in
theorem kindAt_end {word : Nat → By} (hV : (tok V k).k = 8) : ∀ n j, kindAt V word k n j = 0
  | 0, _ => rfl
  | n + 1, j => by
    rw [kindAt, isT_end (by decide) hV, kindAt_end hV n]
    rfl
omit hA in
/-- At the end nothing begins. -/
theorem cond_end (hV : (tok V k).k = 8) : ∀ (f place : Nat), condP V f place k = .bad 90 (tok V k).p ∨ condP V f place k = .out
  | 0, _ => .inr rfl
  | f + 1, 0 => by
    rw [condP_zero]
    rcases cond_end hV f 1 with e | e <;> rw [e]
    · exact .inl rfl
    · exact .inr rfl
  | f + 1, 1 => by
    rw [condP_one]
    rcases cond_end hV f 2 with e | e <;> rw [e]
    · exact .inl rfl
    · exact .inr rfl
  | f + 1, 2 => by
    rw [condP_two, isT_end (by decide) hV, if_neg (by decide)]
    exact cond_end hV f 3
  | f + 1, n + 3 => by
    rw [condP_high, isT_end (by decide) hV, if_neg (by decide), if_neg (by rw [hV]; decide), if_pos (show testAt V k = 0 from kindAt_end hV _ _)]
    exact .inl rfl
omit hA in
theorem beg_end (hV : (tok V k).k = 8) : begP V k = false := by
  unfold begP testAt
  rw [isT_end (by decide) hV, isT_end (by decide) hV, kindAt_end hV, hV]
  rfl
theorem kindAt_lo {word : Nat → By} {i : Nat} (hi : i < k) : ∀ n j, kindAt V word i n j = kindAt T word i n j
  | 0, _ => rfl
  | n + 1, j => by rw [kindAt, kindAt, isT_lo hA hi, kindAt_lo hi n]
omit hA in
theorem kindAt_tok {word : Nat → By} {i : Nat} (h : tok V i = tok T i) : ∀ n j, kindAt V word i n j = kindAt T word i n j
  | 0, _ => rfl
  | n + 1, j => by
    rw [kindAt, kindAt, kindAt_tok h n]
    unfold isT
    rw [h]
omit hA in
theorem beg_tok {i : Nat} (h : tok V i = tok T i) : begP V i = begP T i := by
  unfold begP testAt isT
  rw [kindAt_tok h, h]
/-- A row that goes on at k looks behind it. -/
theorem rowP_bey {part : Nat → PR CT} {word : By} {kind : Int} (hpt : ∀ j, j ≤ E → Frm T E (Plc T E j) j (part j)) (f : Nat) (ks : List CT) (p : Int) (h : isT T 1 word k = true) : Bey T k E (rowP T part word kind f ks p k) := by
  cases f with
  | zero => trivial
  | succ f =>
    rw [rowP, if_pos h]
    have hn := hA.up.isT hA.le (by decide) h
    have hb := isT_not h (.inl (by decide))
    split
    · exact .inr ⟨k + 1, Nat.lt_succ_self _, hn, rfl⟩
    · have hp := hpt (k + 1) hn
      cases hx : part (k + 1) with
      | ok c j =>
        rw [hx] at hp
        exact (rowP_fr2 hA.up hpt f (ks ++ [c]) p j hp.2.1).bey (show k < j from hp.1) hb
      | bad e q =>
        rw [hx] at hp
        exact hp.bey (Nat.lt_succ_self _)
      | out => trivial
theorem rowP_rel {part part' : Nat → PR CT} {word : By} {kind : Int} (hpt : ∀ j, j ≤ E → Frm T E (Plc T E j) j (part j)) (hns : isT T 7 [59] k = true → ∀ j, Nsc k j (part j)) (hpr : ∀ j, j ≤ k → Rel T V k E (part j) (part' j)) (hpe : (tok V k).k = 8 → part' k = .bad 90 (tok V k).p ∨ part' k = .out) :
    ∀ (f : Nat) (ks : List CT) (p : Int) {i : Nat}, i ≤ k → Rel T V k E (rowP T part word kind f ks p i) (rowP V part' word kind f ks p i)
  | 0, _, _, _, _ => Rel.rfl' _
  | f + 1, ks, p, i, hi => by

    rw [rowP, rowP]
    refine Rel.test hA hi (by decide) (fun h _ => ?_) (fun _ => Rel.rfl' _) (fun e h => ?_)
    · have go : Rel T V k E ((part (i + 1)).bind fun c j => rowP T part word kind f (ks ++ [c]) p j) ((part' (i + 1)).bind fun c j => rowP V part' word kind f (ks ++ [c]) p j) := by
        refine (hpr (i + 1) h).bind (fun d j _ hj => rowP_rel hpt hns hpr hpe f (ks ++ [d]) p hj) (fun d j e hj => ?_)
        have hf := hpt (i + 1) (Nat.le_trans h hA.le)
        rw [e] at hf
        by_cases hb : isT T 7 [59] k = true
        · have := hns hb (i + 1) d j e h
          omega
        · exact (rowP_fr2 hA.up hpt f (ks ++ [d]) p j hf.2.1).bey hj hb
      by_cases hp : ks.length = 32
      · simp only [hp, true_and]
        rw [plc_eq hA h]
        rcases Nat.lt_or_ge (i + 1) k with h1 | h1
        · rw [beg_tok (hA.lo _ h1)]
          split
          · exact Rel.rfl' _
          · exact go
        · obtain rfl : i + 1 = k := by omega
          rcases hA.hi with e | e
          · rw [beg_tok e]
            split
            · exact Rel.rfl' _
            · exact go
          · rw [beg_end e, if_neg (show ¬ (false = true) by decide)]
            split
            · rcases hpe e with e2 | e2
              · refine .inr (.inr (.inr ⟨e, ⟨92, .inr rfl, rfl⟩, ?_⟩))
                rw [e2, hA.pl]
                rfl
              · refine .inr (.inr (.inl ?_))
                rw [e2]
                rfl
            · exact go
      · rw [if_neg (fun h => hp h.1), if_neg (fun h => hp h.1)]
        exact go
    · subst e
      have := rowP_bey hA hpt (word := word) (kind := kind) (f + 1) ks p h
      rw [rowP, if_pos h] at this
      exact this
theorem condP_rel : ∀ (f place : Nat) {i : Nat}, i ≤ k → Rel T V k E (condP T f place i) (condP V f place i)
  | 0, _, _, _ => Rel.rfl' _
  | f + 1, 0, i, hi => by
    rw [condP_zero, condP_zero]
    have hpt := fun j (hj : j ≤ E) => condP_frm hA.up f 1 j hj
    refine (condP_rel f 1 hi).bind (fun c j _ hj => ?_) (fun c j e hj => ?_)
    · exact Rel.test hA hj (by decide) (fun h _ => rowP_rel hA hpt (fun hb l => condP_nsc hb f 1 l) (fun l hl => condP_rel f 1 hl) (fun hV => cond_end hV f 1) f [c] c.p hj) (fun _ => Rel.rfl' _) (fun e h => by subst e; exact rowP_bey hA hpt f [c] c.p h)
    · have hf := hpt i (Nat.le_trans hi hA.le)
      rw [e] at hf
      by_cases hb : isT T 7 [59] k = true
      · have := condP_nsc hb f 1 i c j e hi
        omega
      · split
        · exact (rowP_fr2 hA.up hpt f [c] c.p j hf.2.1).bey hj hb
        · exact hj
  | f + 1, 1, i, hi => by
    rw [condP_one, condP_one]
    have hpt := fun j (hj : j ≤ E) => condP_frm hA.up f 2 j hj
    refine (condP_rel f 2 hi).bind (fun c j _ hj => ?_) (fun c j e hj => ?_)
    · exact Rel.test hA hj (by decide) (fun h _ => rowP_rel hA hpt (fun hb l => condP_nsc hb f 2 l) (fun l hl => condP_rel f 2 hl) (fun hV => cond_end hV f 2) f [c] c.p hj) (fun _ => Rel.rfl' _) (fun e h => by subst e; exact rowP_bey hA hpt f [c] c.p h)
    · have hf := hpt i (Nat.le_trans hi hA.le)
      rw [e] at hf
      by_cases hb : isT T 7 [59] k = true
      · have := condP_nsc hb f 2 i c j e hi
        omega
      · split
        · exact (rowP_fr2 hA.up hpt f [c] c.p j hf.2.1).bey hj hb
        · exact hj
  | f + 1, 2, i, hi => by
    rw [condP_two, condP_two, plc_eq hA hi]
    refine Rel.test hA hi (by decide) (fun h _ => (condP_rel f 2 h).bind (fun c j _ hj => Rel.rfl' _) (fun c j e hj => ?_)) (fun _ => condP_rel f 3 hi) (fun e h => ?_)
    · by_cases hb : isT T 7 [59] k = true
      · have := condP_nsc hb f 2 (i + 1) c j e h
        omega
      · exact (overP_fr2 _ _).bey hj hb
    · subst e
      have hn := hA.up.isT hA.le (by decide) h
      have hb := isT_not h (.inl (by decide))
      have hf := condP_frm hA.up f 2 (i + 1) hn
      cases hx : condP T f 2 (i + 1) with
      | ok c j =>
        rw [hx] at hf
        exact (overP_fr2 _ _).bey (show i < j from hf.1) hb
      | bad e q =>
        rw [hx] at hf
        exact hf.bey (Nat.lt_succ_self _)
      | out => trivial
  | f + 1, n + 3, i, hi => by
    rw [condP_high, condP_high, plc_eq hA hi]
    refine Rel.test hA hi (by decide) (fun h _ => (condP_rel f 0 h).bind (fun c j _ hj => (takeT_rel hA hj (by decide)).bind (fun _ _ _ _ => Rel.rfl' _) (fun _ _ _ h => h)) (fun c j e hj => ?_)) (fun _ => ?_) (fun e h => ?_)
    · have hf := condP_frm hA.up f 0 (i + 1) (Nat.le_trans h hA.le)
      rw [e] at hf
      exact Frm.bey (φ := fun _ => True) ((takeT_frm hA.up (by decide) hf.2.1).bind (Nat.le_refl _) fun _ l _ k1 k2 _ => ⟨k1, k2, trivial⟩) hj
    · refine Rel.kind hA hi (by decide) (fun h _ => by rw [hA.lo i h]; exact Rel.rfl' _) (fun _ => ?_) (fun e _ => by subst e; exact Nat.lt_succ_self _)
      rcases Nat.lt_or_ge i k with h | h
      · unfold testAt
        rw [kindAt_lo hA h]
        split
        · exact Rel.rfl' _
        · exact restP_rel hA f _ h
      · obtain rfl : i = k := by omega
        by_cases ht : testAt T i = 0
        · rw [if_pos ht, if_pos]
          · exact Rel.rfl' _
          · rcases hA.hi with e | e
            · unfold testAt at ht ⊢
              rw [kindAt_tok e]
              exact ht
            · exact kindAt_end e _ _
        · rw [if_neg ht]
          exact .inl ((restP_frm hA.up f _ (hA.up.next hA.le (by rw [kindAt_ne ht]; decide))).bey (Nat.lt_succ_self _))
    · subst e
      have hn := hA.up.isT hA.le (by decide) h
      exact Frm.bey (φ := fun _ => True) ((condP_frm hA.up f 0 (i + 1) hn).bind (Nat.le_refl _) fun c j _ h1 h2 _ => (takeT_frm hA.up (by decide) h2).bind h1 fun _ l _ k1 k2 _ => ⟨by omega, k2, trivial⟩) (Nat.lt_succ_self _)
end
end Go.Proofs.YtlmhofjiobmodaaGreatDoor
