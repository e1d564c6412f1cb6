/-
  Items and policies out of rows of tokens that are alike up to a place. Of no program: no condition.
-/
import Derived.Test.YtlmhofjiobmodaaGreatDoorQ46
namespace Go.Proofs.YtlmhofjiobmodaaGreatDoor

def RelP (T V : List Tk) (k E : Nat) (r r' : PR (List IT)) : Prop := Rel T V k E r r' ∨ ((tok V k).k = 8 ∧ ∃ L, r' = .ok L k)
section
variable {T V : List Tk} {k E : Nat}
theorem itemB_frm (hu : Up T E) (f kind : Nat) (t : Tk) {j : Nat} (h2 : j ≤ E) : Frm T E (fun _ => True) j ((takeP T 2 j).bind fun u l => (if kind = 1 then takeT T 7 [61] l else takeT T 1 wWhen l).bind fun _ m => (condP T f 0 m).bind fun c n => (takeT T 7 [59] n).bind fun _ o => .ok (⟨kind, u.t, c, t.p⟩ : IT) o) := by
  refine (takeP_frm hu (by decide) h2).bind (Nat.le_refl _) fun u l _ g1 g2 _ => Frm.bind (φ := fun _ => True) (b := l) ?_ (by omega) fun _ m _ k1 k2 _ => (condP_frm hu f 0 m k2).bind (by omega) fun c n _ l1 l2 _ => (takeT_frm hu (by decide) l2).bind (by omega) fun _ o _ m1 m2 _ => ⟨by omega, m2, trivial⟩
  split
  · exact takeT_frm hu (by decide) g2
  · exact takeT_frm hu (by decide) g2
theorem itemP_frm1 (hu : Up T E) (f kind : Nat) {i : Nat} (hi : i ≤ E) (h : (tok T i).k = 1) : Frm T E (fun _ => True) (i + 1) (itemP T f kind i) := by
  have e : takeP T 1 i = .ok (tok T i) (i + 1) := if_pos h
  unfold itemP
  rw [e]
  exact itemB_frm hu f kind _ (hu.next hi (by rw [h]; decide))
variable (hA : Agr T V k E)
include hA
theorem itemP_rel (f kind : Nat) {i : Nat} (hi : i ≤ k) : Rel T V k E (itemP T f kind i) (itemP V f kind i) := by
  unfold itemP
  refine (takeP_rel hA hi (by decide)).bind (fun t j _ hj => ?_) (fun t j e hj => ?_)
  · refine (takeP_rel hA hj (by decide)).bind (fun u l _ hl => ?_) (fun u l e hl => ?_)
    · refine Rel.bind ?_ (fun _ m _ hm => ?_) (fun _ m e hm => ?_)
      · split
        · exact takeT_rel hA hl (by decide)
        · exact takeT_rel hA hl (by decide)
      · refine (condP_rel hA f 0 hm).bind (fun c n _ hn => (takeT_rel hA hn (by decide)).bind (fun _ _ _ _ => Rel.rfl' _) (fun _ _ _ h => h)) (fun c n e hn => ?_)
        have hf := condP_frm hA.up f 0 m (Nat.le_trans hm hA.le)
        rw [e] at hf
        exact Frm.bey (φ := fun _ => True) ((takeT_frm hA.up (by decide) hf.2.1).bind (Nat.le_refl _) fun _ o _ m1 m2 _ => ⟨m1, m2, trivial⟩) hn
      · have hf : Frm T E (fun _ => True) l (if kind = 1 then takeT T 7 [61] l else takeT T 1 wWhen l) := by
          split
          · exact takeT_frm hA.up (by decide) (Nat.le_trans hl hA.le)
          · exact takeT_frm hA.up (by decide) (Nat.le_trans hl hA.le)
        rw [e] at hf
        exact Frm.bey (φ := fun _ => True) ((condP_frm hA.up f 0 m hf.2.1).bind (Nat.le_refl _) fun c n _ l1 l2 _ => (takeT_frm hA.up (by decide) l2).bind l1 fun _ o _ m1 m2 _ => ⟨by omega, m2, trivial⟩) hm
    · have hf := takeP_frm hA.up (kind := 2) (by decide) (Nat.le_trans hj hA.le)
      rw [e] at hf
      refine Frm.bey (φ := fun _ => True) (a := l) (Frm.bind (φ := fun _ => True) (b := l) ?_ (Nat.le_refl _) fun _ m _ k1 k2 _ => (condP_frm hA.up f 0 m k2).bind (by omega) fun c n _ l1 l2 _ => (takeT_frm hA.up (by decide) l2).bind (by omega) fun _ o _ m1 m2 _ => ⟨by omega, m2, trivial⟩) hl
      split
      · exact takeT_frm hA.up (by decide) hf.2.1
      · exact takeT_frm hA.up (by decide) hf.2.1
  · have hf := takeP_frm hA.up (kind := 1) (by decide) (Nat.le_trans hi hA.le)
    rw [e] at hf
    exact (itemB_frm hA.up f kind t hf.2.1).bey hj
theorem polP_rel : ∀ (f : Nat) (L : List IT) {i : Nat}, i ≤ k → RelP T V k E (polP T f L i) (polP V f L i)
  | 0, _, _, _ => .inl (Rel.rfl' _)
  | f + 1, L, i, hi => by
    have same : tok V i = tok T i → RelP T V k E (polP T (f + 1) L i) (polP V (f + 1) L i) := fun e => by
      rw [polP, polP]
      unfold itemAt
      rw [kindAt_tok e, e]
      split
      · exact .inl (Rel.rfl' _)
      · split
        · exact .inl (Rel.rfl' _)
        · rename_i h0
          split
          · exact .inl (Rel.rfl' _)
          · rcases Nat.lt_or_ge i k with h | h
            · have hr := itemP_rel hA f (kindAt T iWord i 3 1) hi
              have hf := itemP_frm hA.up f (kindAt T iWord i 3 1) (Nat.le_trans hi hA.le)
              rcases hr with hr | hr | hr | ⟨h1, ⟨e', h2, hr⟩, h3⟩
              · refine .inl (.inl ?_)
                cases hx : itemP T f (kindAt T iWord i 3 1) i with
                | ok x j =>
                  rw [hx] at hr hf
                  exact (polP_frm hA.up f _ j hf.2.1).bey hr
                | bad e p => rw [hx] at hr; exact hr
                | out => trivial
              · rw [hr]
                cases hx : itemP T f (kindAt T iWord i 3 1) i with
                | ok x j =>
                  rw [hx] at hf
                  rcases Nat.lt_or_ge k j with hj | hj
                  · exact .inl (.inl ((polP_frm hA.up f _ j hf.2.1).bey hj))
                  · exact polP_rel f (L ++ [x]) hj
                | bad e p => exact .inl (Rel.rfl' _)
                | out => exact .inl (.inl trivial)
              · rw [hr]
                exact .inl (.inr (.inr (.inl rfl)))
              · rw [hr, h3]
                exact .inl (.inr (.inr (.inr ⟨h1, ⟨e', h2, rfl⟩, rfl⟩)))
            · obtain rfl : i = k := by omega
              refine .inl (.inl ?_)
              have hf := itemP_frm1 hA.up f (kindAt T iWord i 3 1) hA.le (kindAt_ne h0)
              cases hx : itemP T f (kindAt T iWord i 3 1) i with
              | ok x j =>
                rw [hx] at hf
                exact (polP_frm hA.up f _ j hf.2.1).bey hf.1
              | bad e p =>
                rw [hx] at hf
                exact hf.bey (Nat.lt_succ_self _)
              | out => trivial
    rcases Nat.lt_or_ge i k with h | h
    · exact same (hA.lo i h)
    · obtain rfl : i = k := by omega
      rcases hA.hi with e | e
      · exact same e
      · refine .inr ⟨e, L, ?_⟩
        rw [polP, if_pos e]
theorem parse_rel : RelP T V k E (parseP T) (parseP V) := by
  have := polP_rel hA (5 * T.length + 6 + (5 * V.length + 6)) [] (Nat.zero_le _)
  rw [parseP_fuel (by omega), parseP_fuel (by omega)] at this
  exact this
/-- Behind the token at which it is told nothing matters. -/
theorem parse_ahead (hk : tok V k = tok T k) (h8 : (tok T k).k ≠ 8) {e : Int} (he : e = 90 ∨ e = 92) (h : parseP T = .bad e (tok T k).p) : parseP V = .bad e (tok T k).p := by
  rcases parse_rel hA with (hr | hr | hr | ⟨h1, _⟩) | ⟨h1, _⟩
  · rw [h] at hr
    rcases hr with ⟨e1, _⟩ | ⟨i, h1, h2, h3⟩
    · omega
    · have := hA.up.up k i h1 h2
      omega
  · rw [hr, h]
  · exact absurd hr parseP_ne
  · rw [hk] at h1; exact absurd h1 h8
  · rw [hk] at h1; exact absurd h1 h8
theorem Agr.upV (h8 : (tok V k).k = 8) : Up V k := ⟨h8, fun i j h1 h2 => by
  rw [plc_eq hA h2, plc_eq hA (by omega)]
  exact hA.up.up i j h1 (Nat.le_trans h2 hA.le)⟩
/-- What stands ahead of it, alone, is not refused ahead of its end. -/
theorem parse_cut (h8 : (tok V k).k = 8) {e : Int} (he : e = 90 ∨ e = 92) (h : parseP T = .bad e (tok T k).p) : (∃ L i, parseP V = .ok L i) ∨ parseP V = .bad 90 (tok T k).p := by
  rcases parse_rel hA with (hr | hr | hr | ⟨_, _, h1⟩) | ⟨_, L, h1⟩
  · rw [h] at hr
    rcases hr with ⟨e1, _⟩ | ⟨i, h1, h2, h3⟩
    · omega
    · have := hA.up.up k i h1 h2
      omega
  · rcases he with rfl | rfl
    · exact .inr (hr.trans h)
    · have hV := Agr.upV hA h8
      have hf := polP_frm hV (5 * V.length + 6) [] 0 (Nat.zero_le _)
      rw [show polP V (5 * V.length + 6) [] 0 = parseP V from rfl, hr, h] at hf
      obtain ⟨_, i, _, h2, h3, h4⟩ := hf
      have := hV.up i k (h4 rfl) (Nat.le_refl _)
      rw [hA.pl] at this
      omega
  · exact absurd hr parseP_ne
  · exact .inr h1
  · exact .inl ⟨L, k, h1⟩
/-- What is too deep is so ahead of the next semicolon. -/
theorem parse_semi (hk : tok V k = tok T k) (hs : isT T 7 [59] k = true) {m : Nat} (hm : m ≤ k) (h : parseP T = .bad 91 (tok T m).p) : parseP V = .bad 91 (tok T m).p := by
  have h8 : (tok V k).k ≠ 8 := by
    unfold isT at hs
    simp only [Bool.and_eq_true, beq_iff_eq] at hs
    rw [hk, hs.1]
    decide
  rcases parse_rel hA with (hr | hr | hr | ⟨h1, _⟩) | ⟨h1, _⟩
  · rw [h] at hr
    rcases hr with ⟨_, e1⟩ | ⟨i, h1, h2, h3⟩
    · exact absurd hs e1
    · have := hA.up.up m i (by omega) h2
      omega
  · rw [hr, h]
  · exact absurd hr parseP_ne
  · exact absurd h1 h8
  · exact absurd h1 h8
end
end Go.Proofs.YtlmhofjiobmodaaGreatDoor
/-
  What is too deep, cut off: too deep there, or ahead of there. Of no program: no condition.
-/
namespace Go.Proofs.YtlmhofjiobmodaaGreatDoor

/-- What of two rows of tokens, the second cut off, is read. -/
def CutG {α : Type} (r r' : PR α) : Prop := r' = r ∨ (∃ e p : Int, r = .bad e p ∧ e ≠ 91) ∨ r = .out ∨ r' = .out ∨ (∃ p, r' = .bad 90 p) ∨ ∃ m n, r' = .bad 91 m ∧ r = .bad 91 n ∧ m ≤ n
def CutC (T : List Tk) (k a : Nat) (r r' : PR CT) : Prop := CutG r r' ∨ ∃ c, r' = .ok c k ∧ ((∃ n, r = .bad 91 n ∧ (tok T a).p ≤ n) ∨ ∃ d j, r = .ok d j ∧ k ≤ j ∧ dpt c ≤ dpt d ∧ c.p = d.p)
theorem CutG.rf {α : Type} (r : PR α) : CutG r r := .inl rfl
theorem CutG.bind {α β : Type} {R : PR β → PR β → Prop} {x x' : PR α} {f f' : α → Nat → PR β} (h : CutG x x') (hR : ∀ r r', CutG r r' → R r r') (hf : ∀ c j, x = .ok c j → x' = .ok c j → R (f c j) (f' c j)) : R (x.bind f) (x'.bind f') := by
  rcases h with rfl | ⟨e, p, rfl, h⟩ | rfl | rfl | ⟨p, rfl⟩ | ⟨m, n, rfl, rfl, h⟩
  · cases x' with
    | ok c j => exact hf c j rfl rfl
    | bad e p => exact hR _ _ (.inl rfl)
    | out => exact hR _ _ (.inl rfl)
  · exact hR _ _ (.inr (.inl ⟨e, p, rfl, h⟩))
  · exact hR _ _ (.inr (.inr (.inl rfl)))
  · exact hR _ _ (.inr (.inr (.inr (.inl rfl))))
  · exact hR _ _ (.inr (.inr (.inr (.inr (.inl ⟨p, rfl⟩)))))
  · exact hR _ _ (.inr (.inr (.inr (.inr (.inr ⟨m, n, rfl, rfl, h⟩)))))
theorem CutG.bad' {α : Type} (r : PR α) (p : Int) : CutG r (.bad 90 p) := .inr (.inr (.inr (.inr (.inl ⟨p, rfl⟩))))
section
variable {T V : List Tk} {k E : Nat}
theorem Up.mono (h : Up T E) {i j : Nat} (h1 : i ≤ j) (h2 : j ≤ E) : (tok T i).p ≤ (tok T j).p := by
  rcases Nat.lt_or_ge i j with h3 | h3
  · exact Int.le_of_lt (h.up i j h3 h2)
  · obtain rfl : i = j := by omega
    exact Int.le_refl _
theorem dptL_app : ∀ (l m : List CT), dpt.dptL l ≤ dpt.dptL (l ++ m)
  | [], m => Nat.zero_le _
  | c :: l, m => by
    rw [List.cons_append, dpt.dptL, dpt.dptL]
    have := dptL_app l m
    omega
/-- A row, from a place on. -/
theorem rowP_row (hu : Up T E) {part : Nat → PR CT} {word : By} {kind : Int} (hpt : ∀ j, j ≤ E → Frm T E (Plc T E j) j (part j)) : ∀ (f : Nat) (ks : List CT) (p : Int) (j : Nat), j ≤ E → p ≤ (tok T j).p →
    match rowP T part word kind f ks p j with
    | .ok d l => d.p = p ∧ dpt.dptL ks + 1 ≤ dpt d ∧ dpt d ≤ 16 ∧ j ≤ l
    | .bad e n => e = 91 → p ≤ n
    | .out => True
  | 0, _, _, _, _, _ => trivial
  | f + 1, ks, p, j, hj, hp => by
    rw [rowP]
    split
    · rename_i r d l he
      split at he
      · rename_i h
        split at he
        · cases he
        · obtain ⟨c, i, h1, h2⟩ := PR.bind_ok he
          have hn := hu.isT hj (by decide) h
          have hf := hpt (j + 1) hn
          rw [h1] at hf
          have hpi : p ≤ (tok T i).p := Int.le_trans hp (hu.mono (Nat.le_trans (Nat.le_succ _) hf.1) hf.2.1)
          have ih := rowP_row hu hpt (word := word) (kind := kind) f (ks ++ [c]) p i hf.2.1 hpi
          rw [h2] at ih
          obtain ⟨q1, q2, q3, q4⟩ := ih
          have := dptL_app ks [c]
          have h5 : j + 1 ≤ i := hf.1
          exact ⟨q1, by omega, q3, by omega⟩
      · obtain ⟨q1, q2, q3⟩ := overP_ok he
        rw [q1, q2]
        exact ⟨rfl, by rw [dpt_kids]; exact Nat.le_refl _, q3, Nat.le_refl _⟩
    · rename_i r e n he
      intro e91
      subst e91
      split at he
      · rename_i h
        have hn := hu.isT hj (by decide) h
        split at he
        · cases he
        · have hf := hpt (j + 1) hn
          cases hx : part (j + 1) with
          | ok c i =>
            rw [hx] at he hf
            have hpi : p ≤ (tok T i).p := Int.le_trans hp (hu.mono (Nat.le_trans (Nat.le_succ _) hf.1) hf.2.1)
            have ih := rowP_row hu hpt (word := word) (kind := kind) f (ks ++ [c]) p i hf.2.1 hpi
            rw [show rowP T part word kind f (ks ++ [c]) p i = .bad 91 n from he] at ih
            exact ih rfl
          | bad e q =>
            rw [hx] at he hf
            cases he
            obtain ⟨_, i, h1, h2, h3, _⟩ := hf
            rw [h3]
            exact Int.le_trans hp (hu.mono (by omega) h2)
          | out => rw [hx] at he; cases he
      · unfold overP at he
        split at he
        · cases he; exact Int.le_refl _
        · cases he
    · trivial
theorem condP_at (hu : Up T E) : ∀ (f pl i : Nat), i ≤ E → ∀ (c : CT) (j : Nat), condP T f pl i = .ok c j → c.p ≤ (tok T j).p
  | 0, _, _, _, _, _, h => by cases h
  | f + 1, pl, i, hi, c, j, h => by
    have hF := condP_frm hu (f + 1) pl i hi
    rw [h] at hF
    have hij : (tok T i).p ≤ (tok T j).p := hu.mono hF.1 hF.2.1
    have rows : ∀ (pl : Nat) (word : By) (kind : Int), ((condP T f pl i).bind fun c j => if isT T 1 word j = true then rowP T (condP T f pl) word kind f [c] c.p j else .ok c j) = .ok c j → c.p ≤ (tok T j).p := fun pl word kind h => by
      obtain ⟨d, l, h1, h2⟩ := PR.bind_ok h
      have hd := condP_at hu f pl i hi d l h1
      split at h2
      · have hf := condP_frm hu f pl i hi
        rw [h1] at hf
        have hr := rowP_row hu (fun j hj => condP_frm hu f pl j hj) (word := word) (kind := kind) f [d] d.p l hf.2.1 hd
        rw [h2] at hr
        rw [hr.1]
        exact Int.le_trans hd (hu.mono hr.2.2.2 hF.2.1)
      · cases h2; exact hd
    match pl with
    | 0 => exact rows 1 wOr 6 (by rw [← condP_zero]; exact h)
    | 1 => exact rows 2 wAnd 5 (by rw [← condP_one]; exact h)
    | 2 =>
      rw [condP_two] at h
      split at h
      · obtain ⟨d, l, h1, h2⟩ := PR.bind_ok h
        obtain ⟨e1, e2, _⟩ := overP_ok h2
        rw [e1]
        exact hij
      · exact condP_at hu f 3 i hi c j h
    | n + 3 =>
      rw [condP_high] at h
      split at h
      · rename_i hw
        obtain ⟨d, l, h1, h2⟩ := PR.bind_ok h
        obtain ⟨_, m, h3, h4⟩ := PR.bind_ok h2
        cases h4
        have hn := hu.isT hi (by decide) hw
        have h5 := condP_at hu f 0 (i + 1) hn c l h1
        have hf := condP_frm hu f 0 (i + 1) hn
        rw [h1] at hf
        have hg := takeT_frm hu (kind := 7) (text := [41]) (by decide) (a := l) hf.2.1
        rw [h3] at hg
        exact Int.le_trans h5 (hu.mono hg.1 hg.2.1)
      · split at h
        · cases h; exact hij
        · split at h
          · cases h
          · rename_i h0
            have hf := restP_frm hu f (.mk (testAt T i : Nat) [] [] [] [] [] [] (tok T i).p) (hu.next hi (by rw [kindAt_ne h0]; decide))
            rw [h] at hf
            rw [hf.2.2]
            exact hij
variable (hA : Agr T V k E) (h8 : (tok V k).k = 8)
include hA h8
theorem takeT_cut {kd : Int} {tx : By} (hk : kd ≠ 8) {i : Nat} (hi : i ≤ k) : CutG (takeT T kd tx i) (takeT V kd tx i) := by
  unfold takeT
  rcases Nat.lt_or_ge i k with h | h
  · rw [isT_lo hA h, hA.lo i h]
    exact CutG.rf _
  · obtain rfl : i = k := by omega
    rw [isT_end hk h8]
    exact CutG.bad' _ _
theorem takeP_cut {kd : Int} (hk : kd ≠ 8) {i : Nat} (hi : i ≤ k) : CutG (takeP T kd i) (takeP V kd i) := by
  rcases Nat.lt_or_ge i k with h | h
  · unfold takeP
    rw [hA.lo i h]
    exact CutG.rf _
  · obtain rfl : i = k := by omega
    rw [takeP_end hk h8]
    exact CutG.bad' _ _
omit hA h8 in
theorem Frm.leV {α : Type} {φ : α → Prop} {a : Nat} {x : PR α} {c : α} {j : Nat} (h : Frm V k φ a x) (e : x = .ok c j) : j ≤ k := by
  rw [e] at h
  exact h.2.1
theorem partP_cut {kind : Int} (hk : kind ≠ 8) (c : CT) {i : Nat} (hi : i ≤ k) : CutG (partP T kind c i) (partP V kind c i) ∨ ∃ d, partP V kind c i = .ok d k := by
  have hV := Agr.upV hA h8
  refine (takeP_cut hA h8 hk hi).bind (R := fun r r' => CutG r r' ∨ ∃ d, r' = .ok d k) (fun _ _ h => .inl h) fun t j _ e => ?_
  have hj := (takeP_frm hV hk hi).leV e
  split
  · exact .inl (CutG.rf _)
  · split
    · rcases Nat.lt_or_ge j k with h | h
      · rw [isT_lo hA h]
        split
        · exact .inl ((takeP_cut hA h8 (by decide) h).bind (fun _ _ h => h) fun _ _ _ _ => CutG.rf _)
        · exact .inl (CutG.rf _)
      · obtain rfl : j = k := by omega
        rw [isT_end (by decide) h8, if_neg (show ¬ (false = true) by decide)]
        exact .inr ⟨_, rfl⟩
    · exact .inl (CutG.rf _)
omit hA in
theorem moreP_end {kind : Int} (f parts : Nat) (c : CT) : (∃ p, moreP V kind f parts c k = .bad 90 p) ∨ moreP V kind f parts c k = .out := by
  cases f with
  | zero => exact .inr rfl
  | succ f =>
    rw [moreP, isT_end (by decide) h8, if_neg (by decide)]
    unfold takeT
    rw [isT_end (by decide) h8, if_neg (by decide)]
    exact .inl ⟨_, rfl⟩
theorem moreP_cut {kind : Int} (hk : kind ≠ 8) : ∀ (f parts : Nat) (c : CT) {i : Nat}, i ≤ k → CutG (moreP T kind f parts c i) (moreP V kind f parts c i)
  | 0, _, _, _, _ => CutG.rf _
  | f + 1, parts, c, i, hi => by
    have hV := Agr.upV hA h8
    rcases Nat.lt_or_ge i k with h | h
    · rw [moreP, moreP, isT_lo hA h]
      split
      · have go : CutG ((partP T kind c (i + 1)).bind fun c' j => moreP T kind f (parts + 1) c' j) ((partP V kind c (i + 1)).bind fun c' j => moreP V kind f (parts + 1) c' j) := by
          rcases partP_cut hA h8 hk c (i := i + 1) h with hc | ⟨d, hc⟩
          · exact hc.bind (fun _ _ h => h) fun d j _ e => moreP_cut hk f (parts + 1) d ((partP_frm hV hk c (a := i + 1) h).leV e)
          · rw [hc]
            show CutG _ (moreP V kind f (parts + 1) d k)
            rcases moreP_end h8 (kind := kind) f (parts + 1) d with ⟨p, e⟩ | e <;> rw [e]
            · exact CutG.bad' _ _
            · exact .inr (.inr (.inr (.inl rfl)))
        by_cases hp : parts = 32 ∧ (tok T (i + 1)).k = kind
        · rw [if_pos hp]
          exact .inr (.inl ⟨92, _, rfl, by decide⟩)
        · rw [if_neg hp, if_neg]
          · exact go
          · intro h2
            rcases Nat.lt_or_ge (i + 1) k with h3 | h3
            · rw [hA.lo _ h3] at h2; exact hp h2
            · obtain rfl : i + 1 = k := by omega
              exact hk (h2.2.symm.trans h8)
      · exact (takeT_cut hA h8 (by decide) hi).bind (fun _ _ h => h) fun _ _ _ _ => CutG.rf _
    · obtain rfl : i = k := by omega
      rcases moreP_end h8 (kind := kind) (f + 1) parts c with ⟨p, e⟩ | e <;> rw [e]
      · exact CutG.bad' _ _
      · exact .inr (.inr (.inr (.inl rfl)))
theorem listP_cut {kind : Int} (hk : kind ≠ 8) (f : Nat) (c : CT) {i : Nat} (hi : i ≤ k) : CutG (listP T f kind c i) (listP V f kind c i) := by
  have hV := Agr.upV hA h8
  refine (takeT_cut hA h8 (by decide) hi).bind (fun _ _ h => h) fun _ j _ e => (takeT_cut hA h8 (by decide) ((takeT_frm hV (by decide) hi).leV e)).bind (fun _ _ h => h) fun _ l _ e2 => ?_
  have hl := (takeT_frm hV (by decide) ((takeT_frm hV (by decide) hi).leV e)).leV e2
  rcases partP_cut hA h8 hk c hl with hc | ⟨d, hc⟩
  · exact hc.bind (fun _ _ h => h) fun d j _ e => moreP_cut hA h8 hk f 1 d ((partP_frm hV hk c hl).leV e)
  · rw [hc]
    show CutG _ (moreP V kind f 1 d k)
    rcases moreP_end h8 (kind := kind) f 1 d with ⟨p, e⟩ | e <;> rw [e]
    · exact CutG.bad' _ _
    · exact .inr (.inr (.inr (.inl rfl)))
theorem restP_cut (f : Nat) (c : CT) {i : Nat} (hi : i ≤ k) : CutG (restP T f c i) (restP V f c i) := by
  have hV := Agr.upV hA h8
  unfold restP
  split
  · exact listP_cut hA h8 (by decide) f c hi
  split
  · exact listP_cut hA h8 (by decide) f c hi
  split
  · exact listP_cut hA h8 (by decide) f c hi
  split
  · exact (takeT_cut hA h8 (by decide) hi).bind (fun _ _ h => h) fun _ j _ e => (takeP_cut hA h8 (by decide) ((takeT_frm hV (by decide) hi).leV e)).bind (fun _ _ h => h) fun _ l _ e2 => CutG.rf _
  split
  · exact (takeP_cut hA h8 (by decide) hi).bind (fun _ _ h => h) fun _ j _ e => (takeT_cut hA h8 (by decide) ((takeP_frm hV (by decide) hi).leV e)).bind (fun _ _ h => h) fun _ l _ e2 => (takeP_cut hA h8 (by decide) ((takeT_frm hV (by decide) ((takeP_frm hV (by decide) hi).leV e)).leV e2)).bind (fun _ _ h => h) fun _ _ _ _ => CutG.rf _
  split
  · exact (takeP_cut hA h8 (by decide) hi).bind (fun _ _ h => h) fun _ j _ e => CutG.rf _
  · exact CutG.rf _
/-- A row that is cut off. -/
theorem row_stop {part part' : Nat → PR CT} {word : By} {kind : Int} (hpt : ∀ j, j ≤ E → Frm T E (Plc T E j) j (part j)) {a : Nat} (f : Nat) (ks : List CT) (c d : CT) (p : Int) {j : Nat} (hj : j ≤ E) (hkj : k ≤ j) (ha : (tok T a).p ≤ p) (hp : p ≤ (tok T j).p) (hcd : dpt c ≤ dpt d) :
    CutC T k a (rowP T part word kind f (ks ++ [d]) p j) (rowP V part' word kind f (ks ++ [c]) p k) := by
  cases f with
  | zero => exact .inl (CutG.rf _)
  | succ f =>
    have hr := rowP_row hA.up hpt (word := word) (kind := kind) (f + 1) (ks ++ [d]) p j hj hp
    have eV : rowP V part' word kind (f + 1) (ks ++ [c]) p k = overP (.mk kind [] [] [] [] [] (ks ++ [c]) p) k := by
      rw [rowP, isT_end (by decide) h8, if_neg (by decide)]
    rw [eV]
    have hdl : dpt.dptL (ks ++ [c]) ≤ dpt.dptL (ks ++ [d]) := by
      rw [dptL_snoc, dptL_snoc]
      omega
    have hdc : dpt (.mk kind [] [] [] [] [] (ks ++ [c]) p) = dpt.dptL (ks ++ [c]) + 1 := dpt_kids _
    cases hx : rowP T part word kind (f + 1) (ks ++ [d]) p j with
    | ok e l =>
      rw [hx] at hr
      obtain ⟨q1, q2, q3, q4⟩ := hr
      unfold overP
      rw [if_neg (by omega)]
      exact .inr ⟨_, rfl, .inr ⟨e, l, rfl, by omega, by omega, q1.symm⟩⟩
    | bad e n =>
      rw [hx] at hr
      by_cases he : e = 91
      · subst he
        have hpn := hr rfl
        unfold overP
        split
        · exact .inl (.inr (.inr (.inr (.inr (.inr ⟨p, n, rfl, rfl, hpn⟩)))))
        · exact .inr ⟨_, rfl, .inl ⟨n, rfl, Int.le_trans ha hpn⟩⟩
      · exact .inl (.inr (.inl ⟨e, n, rfl, he⟩))
    | out => exact .inl (.inr (.inr (.inl rfl)))
omit hA in
/-- .. whose part is too deep. -/
theorem row_deep {part' : Nat → PR CT} {word : By} {kind : Int} {a : Nat} (f : Nat) (ks : List CT) (p n : Int) (ha : (tok T a).p ≤ p) (hp : p ≤ n) : CutC T k a (.bad 91 n) (rowP V part' word kind f ks p k) := by
  cases f with
  | zero => exact .inl (.inr (.inr (.inr (.inl rfl))))
  | succ f =>
    rw [rowP, isT_end (by decide) h8, if_neg (by decide)]
    unfold overP
    split
    · exact .inl (.inr (.inr (.inr (.inr (.inr ⟨p, n, rfl, rfl, hp⟩)))))
    · exact .inr ⟨_, rfl, .inl ⟨n, rfl, Int.le_trans ha hp⟩⟩
theorem rowP_cut {part part' : Nat → PR CT} {word : By} {kind : Int} (hpt : ∀ j, j ≤ E → Frm T E (Plc T E j) j (part j)) (hpV : ∀ j, j ≤ k → Frm V k (Plc V k j) j (part' j)) (hpc : ∀ j, j ≤ k → CutC T k j (part j) (part' j)) {a : Nat} {p : Int} (ha : (tok T a).p ≤ p) :
    ∀ (f : Nat) (ks : List CT) {i : Nat}, ks ≠ [] → i ≤ k → p ≤ (tok T i).p → CutC T k a (rowP T part word kind f ks p i) (rowP V part' word kind f ks p i)
  | 0, _, _, _, _, _ => .inl (CutG.rf _)
  | f + 1, ks, i, hne, hi, hp => by
    rcases Nat.lt_or_ge i k with h | h
    · rw [rowP, rowP, isT_lo hA h]
      split
      · have hpi : p ≤ (tok T (i + 1)).p := Int.le_trans hp (hA.up.mono (Nat.le_succ _) (Nat.le_trans h hA.le))
        have go : CutC T k a ((part (i + 1)).bind fun c j => rowP T part word kind f (ks ++ [c]) p j) ((part' (i + 1)).bind fun c j => rowP V part' word kind f (ks ++ [c]) p j) := by
          rcases hpc (i + 1) h with hc | ⟨c, hc, hd⟩
          · refine hc.bind (fun _ _ h => .inl h) fun c j e1 e2 => ?_
            have hj := (hpV (i + 1) h).leV e2
            have hf := hpt (i + 1) (Nat.le_trans h hA.le)
            rw [e1] at hf
            exact rowP_cut hpt hpV hpc ha f (ks ++ [c]) (by simp) hj (Int.le_trans hpi (hA.up.mono hf.1 hf.2.1))
          · rw [hc]
            rcases hd with ⟨n, hn, hd⟩ | ⟨d, j, hd, h1, h2, h3⟩
            · rw [hn]
              exact row_deep h8 f (ks ++ [c]) p n ha (Int.le_trans hpi hd)
            · have hf := hpt (i + 1) (Nat.le_trans h hA.le)
              rw [hd] at hf ⊢
              exact row_stop hA h8 hpt f ks c d p hf.2.1 h1 ha (Int.le_trans hpi (hA.up.mono hf.1 hf.2.1)) h2
        by_cases hb : ks.length = 32 ∧ begP T (i + 1) = true
        · rw [if_pos hb]
          exact .inl (.inr (.inl ⟨92, _, rfl, by decide⟩))
        · rw [if_neg hb, if_neg]
          · exact go
          · intro h2
            rcases Nat.lt_or_ge (i + 1) k with h3 | h3
            · rw [beg_tok (hA.lo _ h3)] at h2; exact hb h2
            · obtain rfl : i + 1 = k := by omega
              rw [beg_end h8] at h2
              exact absurd h2.2 (by decide)
      · exact .inl (CutG.rf _)
    · obtain rfl : i = k := by omega
      obtain ⟨ks', c, rfl⟩ : ∃ ks' c, ks = ks' ++ [c] := ⟨ks.dropLast, ks.getLast hne, (List.dropLast_concat_getLast hne).symm⟩
      exact row_stop hA h8 hpt (f + 1) ks' c c p hA.le (Nat.le_refl _) ha hp (Nat.le_refl _)
theorem condP_cut : ∀ (f place : Nat) {i : Nat}, i ≤ k → CutC T k i (condP T f place i) (condP V f place i)
  | 0, _, _, _ => .inl (CutG.rf _)
  | f + 1, place, i, hi => by
    have hV := Agr.upV hA h8
    by_cases hik : i = k
    · subst hik
      rcases cond_end h8 (f + 1) place with e | e <;> rw [e]
      · exact .inl (CutG.bad' _ _)
      · exact .inl (.inr (.inr (.inr (.inl rfl))))
    have h : i < k := by omega
    have rows : ∀ (pl : Nat) (word : By) (kind : Int), CutC T k i ((condP T f pl i).bind fun c j => if isT T 1 word j = true then rowP T (condP T f pl) word kind f [c] c.p j else .ok c j) ((condP V f pl i).bind fun c j => if isT V 1 word j = true then rowP V (condP V f pl) word kind f [c] c.p j else .ok c j) := fun pl word kind => by
      have hpt := fun j (hj : j ≤ E) => condP_frm hA.up f pl j hj
      have hpV := fun j (hj : j ≤ k) => condP_frm hV f pl j hj
      have hx := hpt i (Nat.le_trans hi hA.le)
      have plc : ∀ c j, condP T f pl i = .ok c j → i ≤ j ∧ j ≤ E ∧ (tok T i).p ≤ c.p := fun c j e => by
        rw [e] at hx
        obtain ⟨h1, h2, l, h3, h4, h5⟩ := hx
        exact ⟨h1, h2, by rw [h5]; exact hA.up.mono h3 h4⟩
      rcases condP_cut f pl hi with hc | ⟨c, hc, hd⟩
      · refine hc.bind (fun _ _ h => .inl h) fun c j e1 e2 => ?_
        obtain ⟨p1, p2, p3⟩ := plc c j e1
        have hj := (hpV i hi).leV e2
        have hcp : isT T 1 word j = true → c.p ≤ (tok T j).p := fun _ => by
          exact condP_at hA.up f pl i (Nat.le_trans hi hA.le) c j e1
        rcases Nat.lt_or_ge j k with h1 | h1
        · rw [isT_lo hA h1]
          split
          · rename_i hw
            exact rowP_cut hA h8 hpt hpV (fun l hl => condP_cut f pl hl) p3 f [c] (by simp) hj (hcp hw)
          · exact .inl (CutG.rf _)
        · obtain rfl : j = k := by omega
          rw [isT_end (by decide) h8, if_neg (show ¬ (false = true) by decide)]
          split
          · rename_i hw
            have hr := rowP_row hA.up hpt (word := word) (kind := kind) f [c] c.p j hA.le (hcp hw)
            cases hy : rowP T (condP T f pl) word kind f [c] c.p j with
            | ok d l =>
              rw [hy] at hr
              obtain ⟨q1, q2, q3, q4⟩ := hr
              have : dpt.dptL [c] = max (dpt c) 0 := rfl
              exact .inr ⟨c, rfl, .inr ⟨d, l, rfl, q4, by omega, q1.symm⟩⟩
            | bad e n =>
              rw [hy] at hr
              by_cases he : e = 91
              · subst he
                exact .inr ⟨c, rfl, .inl ⟨n, rfl, Int.le_trans p3 (hr rfl)⟩⟩
              · exact .inl (.inr (.inl ⟨e, n, rfl, he⟩))
            | out => exact .inl (.inr (.inr (.inl rfl)))
          · exact .inl (CutG.rf _)
      · rw [hc]
        have eV : (PR.ok c k).bind (fun c j => if isT V 1 word j = true then rowP V (condP V f pl) word kind f [c] c.p j else PR.ok c j) = .ok c k := by
          show (if isT V 1 word k = true then _ else _) = _
          rw [isT_end (by decide) h8, if_neg (by decide)]
        rw [eV]
        rcases hd with ⟨n, hn, hd⟩ | ⟨d, j, hd, h1, h2, h3⟩
        · rw [hn]
          exact .inr ⟨c, rfl, .inl ⟨n, rfl, hd⟩⟩
        · obtain ⟨p1, p2, p3⟩ := plc d j hd
          have hcp := condP_at hA.up f pl i (Nat.le_trans hi hA.le) d j hd
          rw [hd]
          show CutC T k i (if isT T 1 word j = true then _ else _) _
          split
          · have hr := rowP_row hA.up hpt (word := word) (kind := kind) f [d] d.p j p2 hcp
            cases hy : rowP T (condP T f pl) word kind f [d] d.p j with
            | ok e l =>
              rw [hy] at hr
              obtain ⟨q1, q2, q3, q4⟩ := hr
              have : dpt.dptL [d] = max (dpt d) 0 := rfl
              exact .inr ⟨c, rfl, .inr ⟨e, l, rfl, by omega, by omega, by rw [h3, q1]⟩⟩
            | bad e n =>
              rw [hy] at hr
              by_cases he : e = 91
              · subst he
                exact .inr ⟨c, rfl, .inl ⟨n, rfl, Int.le_trans p3 (hr rfl)⟩⟩
              · exact .inl (.inr (.inl ⟨e, n, rfl, he⟩))
            | out => exact .inl (.inr (.inr (.inl rfl)))
          · exact .inr ⟨c, rfl, .inr ⟨d, j, rfl, h1, h2, h3⟩⟩
    match place with
    | 0 => rw [condP_zero, condP_zero]; exact rows 1 wOr 6
    | 1 => rw [condP_one, condP_one]; exact rows 2 wAnd 5
    | 2 =>
      rw [condP_two, condP_two, isT_lo hA h, hA.lo i h]
      split
      · have hov : ∀ (c : CT) (j : Nat), overP (.mk 4 [] [] [] [] [] [c] (tok T i).p) j = if 16 < dpt c + 1 then .bad 91 (tok T i).p else .ok (.mk 4 [] [] [] [] [] [c] (tok T i).p) j := fun c j => by
          have : dpt (.mk 4 [] [] [] [] [] [c] (tok T i).p) = dpt c + 1 := by
            rw [dpt_kids]
            show max (dpt c) 0 + 1 = _
            omega
          unfold overP
          rw [this]
          rfl
        rcases condP_cut f 2 (i := i + 1) h with hc | ⟨c, hc, hd⟩
        · exact hc.bind (fun _ _ h => .inl h) fun c j e1 e2 => .inl (CutG.rf _)
        · rw [hc]
          show CutC T k i _ (overP _ k)
          rw [hov]
          rcases hd with ⟨n, hn, hd⟩ | ⟨d, j, hd, h1, h2, h3⟩
          · rw [hn]
            have hin : (tok T i).p ≤ n := Int.le_trans (hA.up.mono (Nat.le_succ _) (Nat.le_trans h hA.le)) hd
            split
            · exact .inl (.inr (.inr (.inr (.inr (.inr ⟨_, n, rfl, rfl, hin⟩)))))
            · exact .inr ⟨_, rfl, .inl ⟨n, rfl, hin⟩⟩
          · rw [hd]
            show CutC T k i (overP _ j) _
            rw [hov]
            by_cases g1 : 16 < dpt c + 1
            · rw [if_pos g1, if_pos (by omega)]
              exact .inl (CutG.rf _)
            · rw [if_neg g1]
              split
              · exact .inr ⟨_, rfl, .inl ⟨_, rfl, Int.le_refl _⟩⟩
              · refine .inr ⟨_, rfl, .inr ⟨_, j, rfl, h1, ?_, rfl⟩⟩
                rw [dpt_kids, dpt_kids]
                show max (dpt c) 0 + 1 ≤ max (dpt d) 0 + 1
                omega
      · exact condP_cut f 3 hi
    | n + 3 =>
      rw [condP_high, condP_high, isT_lo hA h, hA.lo i h]
      unfold testAt
      rw [kindAt_lo hA h]
      split
      · rcases condP_cut f 0 (i := i + 1) h with hc | ⟨c, hc, hd⟩
        · exact hc.bind (fun _ _ h => .inl h) fun c j e1 e2 => .inl ((takeT_cut hA h8 (by decide) ((condP_frm hV f 0 (i + 1) h).leV e2)).bind (fun _ _ h => h) fun _ _ _ _ => CutG.rf _)
        · rw [hc]
          refine .inl ?_
          have eV : (PR.ok c k).bind (fun c j => (takeT V 7 [41] j).bind fun _ l => PR.ok c l) = .bad 90 (tok V k).p := by
            show (takeT V 7 [41] k).bind _ = _
            unfold takeT
            rw [isT_end (by decide) h8, if_neg (by decide)]
            rfl
          rw [eV]
          exact CutG.bad' _ _
      · split
        · exact .inl (CutG.rf _)
        · split
          · exact .inl (CutG.rf _)
          · exact .inl (restP_cut hA h8 f _ h)
end
end Go.Proofs.YtlmhofjiobmodaaGreatDoor
/-
  A policy whose source is cut off where it is too deep. Of no program: no condition.
-/
namespace Go.Proofs.YtlmhofjiobmodaaGreatDoor

section
variable {T V : List Tk} {k E : Nat} (hA : Agr T V k E) (h8 : (tok V k).k = 8)
include hA h8
theorem itemP_cut (f kind : Nat) {i : Nat} (hi : i ≤ k) : CutG (itemP T f kind i) (itemP V f kind i) := by
  have hV := Agr.upV hA h8
  refine (takeP_cut hA h8 (by decide) hi).bind (fun _ _ h => h) fun t j _ e => ?_
  have hj := (takeP_frm hV (by decide) hi).leV e
  refine (takeP_cut hA h8 (by decide) hj).bind (fun _ _ h => h) fun u l _ e => ?_
  have hl := (takeP_frm hV (by decide) hj).leV e
  have hw : CutG (if kind = 1 then takeT T 7 [61] l else takeT T 1 wWhen l) (if kind = 1 then takeT V 7 [61] l else takeT V 1 wWhen l) := by
    split
    · exact takeT_cut hA h8 (by decide) hl
    · exact takeT_cut hA h8 (by decide) hl
  have hwf : Frm V k (fun _ => True) l (if kind = 1 then takeT V 7 [61] l else takeT V 1 wWhen l) := by
    split
    · exact takeT_frm hV (by decide) hl
    · exact takeT_frm hV (by decide) hl
  refine hw.bind (fun _ _ h => h) fun _ m _ e => ?_
  have hm := hwf.leV e
  rcases condP_cut hA h8 f 0 hm with hc | ⟨c, hc, _⟩
  · refine hc.bind (fun _ _ h => h) fun c n _ e => ?_
    exact (takeT_cut hA h8 (by decide) ((condP_frm hV f 0 m hm).leV e)).bind (fun _ _ h => h) fun _ _ _ _ => CutG.rf _
  · rw [hc]
    have eV : (PR.ok c k).bind (fun c n => (takeT V 7 [59] n).bind fun _ o => PR.ok (⟨kind, u.t, c, t.p⟩ : IT) o) = .bad 90 (tok V k).p := by
      show (takeT V 7 [59] k).bind _ = _
      unfold takeT
      rw [isT_end (by decide) h8, if_neg (by decide)]
      rfl
    rw [eV]
    exact CutG.bad' _ _
theorem polP_cut : ∀ (f : Nat) (L : List IT) {i : Nat}, i ≤ k → CutG (polP T f L i) (polP V f L i) ∨ ∃ M j, polP V f L i = .ok M j
  | 0, _, _, _ => .inl (CutG.rf _)
  | f + 1, L, i, hi => by
    have hV := Agr.upV hA h8
    rcases Nat.lt_or_ge i k with h | h
    · rw [polP, polP]
      unfold itemAt
      rw [kindAt_lo hA h, hA.lo i h]
      split
      · exact .inl (CutG.rf _)
      · split
        · exact .inl (CutG.rf _)
        · split
          · exact .inl (CutG.rf _)
          · exact (itemP_cut hA h8 f _ hi).bind (R := fun r r' => CutG r r' ∨ ∃ M j, r' = .ok M j) (fun _ _ h => .inl h) fun x j _ e => polP_cut f (L ++ [x]) ((itemP_frm hV f _ hi).leV e)
    · obtain rfl : i = k := by omega
      exact .inr ⟨L, i, by rw [polP, if_pos h8]⟩
/-- What is cut off behind some token is too deep there, or ahead of there, or goes on. -/
theorem parse_deep {n : Int} (h : parseP T = .bad 91 n) : (∃ L i, parseP V = .ok L i) ∨ (∃ p, parseP V = .bad 90 p) ∨ ∃ m, parseP V = .bad 91 m ∧ m ≤ n := by
  have := polP_cut hA h8 (5 * T.length + 6 + (5 * V.length + 6)) [] (Nat.zero_le _)
  rw [parseP_fuel (by omega), parseP_fuel (by omega), h] at this
  rcases this with (e | ⟨e, p, e1, e2⟩ | e | e | ⟨p, e⟩ | ⟨m, q, e1, e2, e3⟩) | ⟨M, j, e⟩
  · exact .inr (.inr ⟨n, e, Int.le_refl _⟩)
  · cases e1; exact absurd rfl e2
  · cases e
  · exact absurd e parseP_ne
  · exact .inr (.inl ⟨p, e⟩)
  · cases e2; exact .inr (.inr ⟨m, e1, e3⟩)
  · exact .inl ⟨M, j, e⟩
end
/-- What is wrong is told at a token. -/
theorem parse_at {T : List Tk} {E : Nat} (hu : Up T E) {e p : Int} (h : parseP T = .bad e p) : (e = 90 ∨ e = 91 ∨ e = 92) ∧ ∃ i, i ≤ E ∧ p = (tok T i).p := by
  have hf := polP_frm hu (5 * T.length + 6) [] 0 (Nat.zero_le _)
  rw [show polP T (5 * T.length + 6) [] 0 = parseP T from rfl, h] at hf
  obtain ⟨h1, i, _, h2, h3, _⟩ := hf
  exact ⟨h1, i, h2, h3⟩
end Go.Proofs.YtlmhofjiobmodaaGreatDoor
