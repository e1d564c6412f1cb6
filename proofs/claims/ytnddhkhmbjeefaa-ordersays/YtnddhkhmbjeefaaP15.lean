/-
  A lifted diagram says what it said; rows of its tables are no more than pairs of an old row and a class. In pure words; of no program: no condition.
-/
import Derived.Test.YtnddhkhmbjeefaaP14
namespace Go.Proofs.Ytnddhkhmbjeefaa
open Go.RowKit

/-- As many as are led to unlike ones. -/
theorem pigR {α β : Type} {R : α → β → Prop} : ∀ (A : List α) (B : List β), A.Nodup → (∀ a ∈ A, ∃ b ∈ B, R a b) → (∀ a ∈ A, ∀ a' ∈ A, ∀ b, R a b → R a' b → a = a') → A.length ≤ B.length
  | [], _, _, _, _ => Nat.zero_le _
  | a :: A, B, hn, h, hi => by
    obtain ⟨b, hb, r⟩ := h a (by simp)
    obtain ⟨B1, B2, rfl⟩ := List.append_of_mem hb
    have hn' := List.nodup_cons.1 hn
    have := pigR A (B1 ++ B2) hn'.2 (fun a' ha' => by
      obtain ⟨b', hb', r'⟩ := h a' (by simp [ha'])
      refine ⟨b', ?_, r'⟩
      rw [List.mem_append, List.mem_cons] at hb'
      rcases hb' with h1 | rfl | h1
      · exact List.mem_append_left _ h1
      · have := hi a (by simp) a' (by simp [ha']) _ r r'
        subst this
        exact absurd ha' hn'.1
      · exact List.mem_append_right _ h1) (fun a1 h1 a2 h2 => hi a1 (by simp [h1]) a2 (by simp [h2]))
    simp only [List.length_append, List.length_cons] at *
    omega
def pairs (n m : Nat) : List (Nat × Nat) := (List.range n).flatMap fun t => (List.range m).map fun c => (t, c)
theorem pairs_length (n m : Nat) : (pairs n m).length = n * m := by
  unfold pairs
  induction n with
  | zero => simp
  | succ n ih => rw [List.range_succ, List.flatMap_append, List.length_append, ih, Nat.succ_mul]; simp
theorem pairs_mem {n m t c : Nat} (ht : t < n) (hc : c < m) : (t, c) ∈ pairs n m := List.mem_flatMap.2 ⟨t, List.mem_range.2 ht, List.mem_map.2 ⟨c, List.mem_range.2 hc, rfl⟩⟩
section
variable {S : List Int} {X Y A T : List Lay} {b : Lay} {p q : Nat → Nat} {F : List Phi} {R : List Int}
theorem upd_self (p : Nat → Nat) (l : Nat) : upd p l (p l) = p := by
  funext j
  unfold upd
  split
  · rename_i e; rw [e]
  · rfl
/-- Two rows for each table at the beginning. -/
def tab0 (S : List Int) (X : List Lay) : List Lay := X.map fun l => (l.1, [[(szL S l.1, 0)], [(szL S l.1, 1)]])
theorem row_const {s : Int} (h : 1 ≤ s) (z : Int) : rlN (fun _ => z) s.toNat = [(s, z)] := by
  rw [rlN_const (fun _ _ => rfl) (by omega)]
  congr 2
  omega
theorem tab0_wf (hS : SzOk S) : ∀ {X : List Lay}, Wf S (X ++ b :: T) → Wf S (tab0 S X ++ T)
  | [], w => w.2.2
  | l :: X, w => by
    have w' : LayOk S l (wid (X ++ b :: T)) ∧ l.1 ∉ (X ++ b :: T).map (·.1) ∧ Wf S (X ++ b :: T) := w
    have ih := tab0_wf hS w'.2.2
    have hs := hS.at w'.1.ge w'.1.lt
    have h2 := ih.two
    refine (show LayOk S (l.1, [[(szL S l.1, 0)], [(szL S l.1, 1)]]) (wid (tab0 S X ++ T)) ∧ l.1 ∉ (tab0 S X ++ T).map (·.1) ∧ Wf S (tab0 S X ++ T) from ⟨⟨w'.1.ge, w'.1.lt, rfl, rfl, ?_, fun r hr => ?_⟩, fun hn => w'.2.1 ?_, ih⟩)
    · refine List.nodup_cons.2 ⟨?_, List.nodup_cons.2 ⟨by simp, List.nodup_nil⟩⟩
      simp
    · simp only [List.mem_cons, List.not_mem_nil, or_false] at hr
      rcases hr with rfl | rfl
      · exact ⟨fun _ => 0, (row_const hs.1 0).symm, fun c _ => ⟨show (0 : Int) ≤ 0 by omega, show (0 : Int) < _ by omega⟩⟩
      · exact ⟨fun _ => 1, (row_const hs.1 1).symm, fun c _ => ⟨show (0 : Int) ≤ 1 by omega, show (1 : Int) < _ by omega⟩⟩
    · rw [List.map_append, List.mem_append] at hn ⊢
      rcases hn with hn | hn
      · left
        simpa [tab0] using hn
      · exact .inr (by simp only [List.map_cons, List.mem_cons]; exact .inr hn)
theorem TInv.start (hS : SzOk S) (w : Wf S (X ++ b :: T)) : TInv S X b T (tab0 S X) := by
  refine ⟨by simp [tab0], tab0_wf hS w, fun i hi x hx hxW => ?_⟩
  have e : (tab0 S X).drop i = (fun l : Lay => (l.1, [[(szL S l.1, 0)], [(szL S l.1, 1)]])) X[i] :: (tab0 S X).drop (i + 1) := by
    rw [drop_cons (by simpa [tab0] using hi)]
    simp [tab0]
  rw [e] at hxW
  have h2 : x < ((2 : Nat) : Int) := hxW.2
  omega
/-- What is left hangs on no class if its row is one of the first two. -/
theorem low_const (hS : SzOk S) {L : List Lay} (w : Wf S L) {x : Int} (hx : inW L x) (h2 : 2 ≤ x) {z : Bool} (h : ∀ p, Pnt S p → sayL L x p = z) : False := by
  cases z
  · have := say_ne hS w hx w.zero (fun p hp => (h p hp).trans (say_const w hp).1.symm)
    omega
  · have := say_ne hS w hx w.one (fun p hp => (h p hp).trans (say_const w hp).2.symm)
    omega
theorem mix_upd {o o' : List Int} {lv : Int} (h0 : 0 ≤ lv) (hn : lv ∉ o) (ho : ∀ l, l ∈ o' ↔ l = lv ∨ l ∈ o) {c : Nat} : mixP o q (upd p lv.toNat c) = mixP o' (upd q lv.toNat c) p := by
  funext j
  unfold mixP
  by_cases hj : (j : Int) ∈ o
  · have hne : j ≠ lv.toNat := fun e => hn (by have : (j : Int) = lv := by omega
                                               rw [← this]; exact hj)
    rw [if_pos hj, if_pos ((ho _).2 (.inr hj)), upd_ne q c hne]
  · by_cases e : (j : Int) = lv
    · have e' : j = lv.toNat := by omega
      rw [if_neg hj, if_pos ((ho _).2 (.inl e)), e', upd_at, upd_at]
    · have hne : j ≠ lv.toNat := fun h => e (by omega)
      rw [if_neg hj, if_neg (fun h => ((ho _).1 h).elim e hj), upd_ne p c hne]
/-- Each row of a table is what is left of a root. -/
theorem TInv.reach (hS : SzOk S) (G : GD S F R (A ++ (X ++ b :: T))) (h : TInv S X b T Y) {i : Nat} (hi : i < X.length) {x : Int} (h2 : 2 ≤ x) (hx : inW (Y.drop i ++ T) x) :
    ∃ k, ∃ hk : k < F.length, ∃ q, Pnt S q ∧ ∀ p, Pnt S p → sayL (Y.drop i ++ T) x p = F[k] (mixP (A.map (·.1) ++ b.1 :: (X.take i).map (·.1)) q p) := by
  have w : Wf S (X ++ b :: T) := G.wf.tail
  obtain ⟨t, c, ht, hc, hs⟩ := h.org i hi x h2 hx
  have wi : Wf S (X.drop i ++ b :: T) := w.drop i
  have wb : Wf S (b :: T) := w.tail
  have hcb : (c : Int) < S.getD b.1.toNat 0 := by show (c : Int) < szL S b.1; omega
  have ht2 : 2 ≤ t := by
    rcases Int.lt_or_le t 2 with h1 | h1
    · exfalso
      have h0 := ht.1
      rcases (by omega : t = 0 ∨ t = 1) with e | e
      · subst e
        exact low_const hS (h.wf.drop i) hx h2 (fun p hp => (hs p hp).trans (say_const wi (hp.upd hcb)).1)
      · subst e
        exact low_const hS (h.wf.drop i) hx h2 (fun p hp => (hs p hp).trans (say_const wi (hp.upd hcb)).2)
    · exact h1
  have eX : A ++ (X ++ b :: T) = (A ++ X.take i) ++ X[i] :: (X.drop (i + 1) ++ b :: T) := by
    rw [List.append_assoc]
    congr 1
    rw [← List.cons_append, ← drop_cons hi, ← List.append_assoc, List.take_append_drop]
  rw [drop_cons hi] at ht
  obtain ⟨k, hk, q, hq, hr⟩ := G.rch _ _ _ eX t ht2 ht.2
  refine ⟨k, hk, upd q b.1.toNat c, hq.upd hcb, fun p hp => ?_⟩
  rw [hs p hp, drop_cons hi]
  refine (hr _ (hp.upd hcb)).trans ?_
  rw [mix_upd (o' := A.map (·.1) ++ b.1 :: (X.take i).map (·.1)) wb.1.ge]
  · have hnd := G.wf.nodup
    rw [List.map_append, List.map_append, List.map_cons] at hnd
    intro hm
    rw [List.map_append, List.mem_append] at hm
    rcases hm with hm | hm
    · have := (List.nodup_append.1 hnd).2.2 _ hm b.1 (by simp)
      exact this rfl
    · have h3 := (List.nodup_append.1 (List.nodup_append.1 hnd).2.1).2.2 b.1 ?_ b.1 (by simp)
      · exact h3 rfl
      · obtain ⟨l, hl, e⟩ := List.mem_map.1 hm
        exact List.mem_map.2 ⟨l, List.mem_of_mem_take hl, e⟩
  · intro l
    simp only [List.map_append, List.mem_append, List.mem_cons]
    constructor
    · rintro (h1 | h1 | h1)
      · exact .inr (.inl h1)
      · exact .inl h1
      · exact .inr (.inr h1)
    · rintro (h1 | h1 | h1)
      · exact .inr (.inl h1)
      · exact .inl h1
      · exact .inr (.inr h1)
/-- The lifted diagram. -/
theorem lift_good (hS : SzOk S) (G : GD S F R (A ++ (X ++ b :: T))) (h : TInv S X b T Y) {fr : List (List Rn)} (hl : fr.length = wid (X ++ b :: T)) (hf : ∀ t (ht : t < fr.length), ∃ x, fr[t] = rlN x (szL S b.1).toNat ∧ SplOk S X b T Y 0 (t : Int) x) : GD S F R (A ++ (b.1, fr) :: (Y ++ T)) := by
  have w : Wf S (X ++ b :: T) := G.wf.tail
  have wb : Wf S (b :: T) := w.tail
  have hnd := w.nodup
  rw [List.map_append, List.map_cons] at hnd
  have hs := hS.at wb.1.ge wb.1.lt
  have hsame : ∀ (x : Int), inW (X ++ b :: T) x → ∀ p, Pnt S p → sayL ((b.1, fr) :: (Y ++ T)) x p = sayL (X ++ b :: T) x p := fun x hx p hp => by
    have h0 := hx.1
    have h1 := hx.2
    have ht : x.toNat < fr.length := by omega
    obtain ⟨g, e, hg⟩ := hf _ ht
    have hpb := hp.at wb.1.ge wb.1.lt
    have e1 : fr.getD x.toNat [] = rlN g (szL S b.1).toNat := by rw [List.getD_eq_getElem?_getD, List.getElem?_eq_getElem ht]; exact e
    simp only [sayL]
    rw [e1, goR_rlN _ _ _ (by omega : p b.1.toNat < _)]
    have := (hg (p b.1.toNat) (by omega)).2 p hp
    rw [upd_self, Int.toNat_of_nonneg h0] at this
    exact this
  have wN : Wf S ((b.1, fr) :: (Y ++ T)) := by
    have hrow : ∀ (t : Nat) (ht : t < fr.length) (z : Int) (c0 : Bool), inW (Y ++ T) z → (∀ p, Pnt S p → sayL (Y ++ T) z p = c0) → (∀ p, Pnt S p → sayL (X ++ b :: T) (t : Int) p = c0) → fr[t] = [(szL S b.1, z)] := fun t ht z c0 hz h1 h2 => by
      obtain ⟨g, e, hg⟩ := hf t ht
      rw [e, ← row_const hs.1 z]
      refine rlN_congr _ (fun c hc => ?_)
      refine say_ne hS h.wf (hg c hc).1 hz (fun p hp => ?_)
      have hcb : (c : Int) < S.getD b.1.toNat 0 := by show (c : Int) < szL S b.1; omega
      exact ((hg c hc).2 p hp).trans ((h2 _ (hp.upd hcb)).trans (h1 p hp).symm)
    have h2 := w.two
    refine ⟨⟨wb.1.ge, wb.1.lt, ?_, ?_, ?_, fun r hr => ?_⟩, ?_, h.wf⟩
    · show fr[0]? = _
      rw [List.getElem?_eq_getElem (by omega), hrow 0 (by omega) 0 false h.wf.zero (fun p hp => (say_const h.wf hp).1) (fun p hp => (say_const w hp).1)]
    · show fr[1]? = _
      rw [List.getElem?_eq_getElem (by omega), hrow 1 (by omega) 1 true h.wf.one (fun p hp => (say_const h.wf hp).2) (fun p hp => (say_const w hp).2)]
    · refine List.pairwise_iff_getElem.2 (fun i j hi hj hij e => ?_)
      have hi' : i < fr.length := hi
      have hj' : j < fr.length := hj
      have := say_ne hS w (x := (i : Int)) (y := (j : Int)) ⟨by omega, by omega⟩ ⟨by omega, by omega⟩ (fun p hp => by
        rw [← hsame _ ⟨by omega, by omega⟩ p hp, ← hsame _ ⟨by omega, by omega⟩ p hp]
        simp only [sayL]
        have e' : fr[i] = fr[j] := e
        simp only [Int.toNat_natCast, List.getD_eq_getElem?_getD]
        rw [List.getElem?_eq_getElem hi', List.getElem?_eq_getElem hj', e'])
      omega
    · obtain ⟨t, ht, rfl⟩ := List.getElem_of_mem hr
      obtain ⟨g, e, hg⟩ := hf t ht
      exact ⟨g, e, fun c hc => (hg c hc).1⟩
    · intro hm
      rw [List.map_append, h.lv, List.mem_append] at hm
      rcases hm with hm | hm
      · exact (List.nodup_append.1 hnd).2.2 _ hm b.1 (by simp) rfl
      · exact (List.nodup_cons.1 (List.nodup_append.1 hnd).2.1).1 hm
  have hlen : Y.length = X.length := h.len
  refine ⟨Wf.app G.wf wN (by show _ ≤ fr.length; omega) (fun lv hlv => ?_), ?_, G.rl, fun k hk => ?_, fun A' l T' e x h2 hx => ?_⟩
  · simp only [List.map_cons, List.map_append, List.mem_cons, List.mem_append, h.lv] at hlv ⊢
    rcases hlv with h1 | h1 | h1
    · exact .inr (.inl h1)
    · exact .inl h1
    · exact .inr (.inr h1)
  · have := G.len
    simp only [List.length_append, List.length_cons] at this ⊢
    omega
  · obtain ⟨h1, h2⟩ := G.rt k hk
    refine ⟨⟨h1.1, ?_⟩, fun p hp => ?_⟩
    · have := h1.2
      have := wid_app (L := X ++ b :: T) (T := (b.1, fr) :: (Y ++ T)) (by show _ ≤ fr.length; omega) A
      omega
    · rw [say_app G.wf hp (fun x hx => hsame x hx p hp) h1]
      exact h2 p hp
  · rcases List.append_eq_append_iff.1 e with ⟨C, rfl, e2⟩ | ⟨C, rfl, e2⟩
    · cases C with
      | nil =>
        simp only [List.nil_append, List.cons.injEq] at e2
        obtain ⟨rfl, rfl⟩ := e2
        simp only [List.append_nil]
        cases hX : X ++ b :: T with
        | nil => simp at hX
        | cons l0 L0 =>
          have hx' : x < (l0.2.length : Int) := by
            have h3 : x < (fr.length : Int) := hx
            rw [hl, hX] at h3
            exact h3
          obtain ⟨k, hk, q, hq, hr⟩ := G.rch A l0 L0 (by rw [hX]) x h2 hx'
          refine ⟨k, hk, q, hq, fun p hp => ?_⟩
          rw [hsame x (by rw [hX]; exact ⟨by omega, hx'⟩) p hp, hX]
          exact hr p hp
      | cons c0 C =>
        simp only [List.cons_append, List.cons.injEq] at e2
        obtain ⟨rfl, e3⟩ := e2
        rcases List.append_eq_append_iff.1 e3 with ⟨C2, rfl, e4⟩ | ⟨C2, rfl, e4⟩
        · /- behind the tables -/
          obtain ⟨k, hk, q, hq, hr⟩ := G.rch (A ++ (X ++ b :: C2)) l T' (by rw [e4]; simp) x h2 hx
          refine ⟨k, hk, q, hq, fun p hp => (hr p hp).trans ?_⟩
          refine congrArg _ (mix_perm (fun lv => ?_))
          simp only [List.map_append, List.map_cons, List.mem_append, List.mem_cons, h.lv]
          constructor
          · rintro (h1 | h1 | h1 | h1)
            · exact .inl h1
            · exact .inr (.inr (.inl h1))
            · exact .inr (.inl h1)
            · exact .inr (.inr (.inr h1))
          · rintro (h1 | h1 | h1 | h1)
            · exact .inl h1
            · exact .inr (.inr (.inl h1))
            · exact .inr (.inl h1)
            · exact .inr (.inr (.inr h1))
        · cases C2 with
          | nil =>
            simp only [List.nil_append] at e4
            rw [List.append_nil] at h hlen
            obtain ⟨k, hk, q, hq, hr⟩ := G.rch (A ++ (X ++ [b])) l T' (by rw [← e4]; simp) x h2 hx
            refine ⟨k, hk, q, hq, fun p hp => (hr p hp).trans ?_⟩
            refine congrArg _ (mix_perm (fun lv => ?_))
            simp only [List.map_append, List.map_cons, List.mem_append, List.mem_cons, h.lv, List.map_nil, List.not_mem_nil, or_false]
            constructor
            · rintro (h1 | h1 | h1)
              · exact .inl h1
              · exact .inr (.inr h1)
              · exact .inr (.inl h1)
            · rintro (h1 | h1 | h1)
              · exact .inl h1
              · exact .inr (.inr h1)
              · exact .inr (.inl h1)
          | cons c1 C2 =>
            simp only [List.cons_append, List.cons.injEq] at e4
            obtain ⟨rfl, rfl⟩ := e4
            have hi : C.length < X.length := by rw [← hlen]; simp
            have hd : (C ++ l :: C2).drop C.length = l :: C2 := List.drop_left' rfl
            obtain ⟨k, hk, q, hq, hr⟩ := h.reach hS G hi h2 (x := x) (by rw [hd]; exact ⟨by omega, hx⟩)
            rw [hd] at hr
            refine ⟨k, hk, q, hq, fun p hp => (hr p hp).trans ?_⟩
            have elv : (X.take C.length).map (·.1) = C.map (·.1) := by
              have := congrArg (List.take C.length) h.lv
              rw [← List.map_take, ← List.map_take, List.take_left' rfl] at this
              exact this.symm
            rw [elv]
            simp
    · cases C with
      | nil =>
        simp only [List.nil_append, List.cons.injEq] at e2
        obtain ⟨rfl, rfl⟩ := e2
        cases hX : X ++ b :: T with
        | nil => simp at hX
        | cons l0 L0 =>
          have hx' : x < (l0.2.length : Int) := by
            have h3 : x < (fr.length : Int) := hx
            rw [hl, hX] at h3
            exact h3
          obtain ⟨k, hk, q, hq, hr⟩ := G.rch A' l0 L0 (by rw [hX]; simp) x h2 hx'
          refine ⟨k, hk, q, hq, fun p hp => ?_⟩
          rw [hsame x (by rw [hX]; exact ⟨by omega, hx'⟩) p hp, hX]
          exact hr p hp
      | cons c0 C =>
        simp only [List.cons_append, List.cons.injEq] at e2
        obtain ⟨rfl, rfl⟩ := e2
        obtain ⟨k, hk, q, hq, hr⟩ := G.rch A' l (C ++ (X ++ b :: T)) (by simp) x h2 hx
        refine ⟨k, hk, q, hq, fun p hp => ?_⟩
        have w1 : Wf S (l :: C ++ (X ++ b :: T)) := by
          have := G.wf
          rw [List.append_assoc] at this
          exact this.tail
        have := say_app (A := l :: C) (T := (b.1, fr) :: (Y ++ T)) w1 hp (fun x hx => hsame x hx p hp) (x := x) ⟨by omega, hx⟩
        exact this.trans (hr p hp)
/-- A table has at most two rows more than there are pairs of an old row and a class. -/
theorem TInv.few (hS : SzOk S) (h : TInv S X b T Y) {i : Nat} (hi : i < X.length) : wid (Y.drop i ++ T) ≤ 2 + wid (X.drop i ++ b :: T) * (szL S b.1).toNat := by
  have wi := h.wf.drop i
  have := pigR (R := fun (x : Nat) (tc : Nat × Nat) => ∀ p, Pnt S p → sayL (Y.drop i ++ T) ((x : Int) + 2) p = sayL (X.drop i ++ b :: T) (tc.1 : Int) (upd p b.1.toNat tc.2)) (List.range (wid (Y.drop i ++ T) - 2)) (pairs (wid (X.drop i ++ b :: T)) (szL S b.1).toNat) List.nodup_range (fun x hx => by
      have hx' := List.mem_range.1 hx
      obtain ⟨t, c, h1, h2, h3⟩ := h.org i hi ((x : Int) + 2) (by omega) ⟨by omega, by omega⟩
      refine ⟨(t.toNat, c), pairs_mem (by have := h1.1; have := h1.2; omega) h2, fun p hp => ?_⟩
      rw [h3 p hp, Int.toNat_of_nonneg h1.1]) (fun x hx y hy b' h1 h2 => by
      have hx' := List.mem_range.1 hx
      have hy' := List.mem_range.1 hy
      have := say_ne hS wi (x := (x : Int) + 2) (y := (y : Int) + 2) ⟨by omega, by omega⟩ ⟨by omega, by omega⟩ (fun p hp => (h1 p hp).trans (h2 p hp).symm)
      omega)
  rw [List.length_range, pairs_length] at this
  omega
end
end Go.Proofs.Ytnddhkhmbjeefaa
