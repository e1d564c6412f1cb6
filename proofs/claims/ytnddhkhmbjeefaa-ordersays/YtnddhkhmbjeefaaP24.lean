/-
  Lifting without a bound: each level may be taken ahead of others. In pure words; of no program: no condition.
-/
import Derived.Test.YtnddhkhmbjeefaaP15
import Derived.Test.YtnddhkhmbjeefaaP07
import Derived.Test.YtnddhkhmbjeefaaP22
import Derived.Test.YtnddhkhmbjeefaaP23
import Derived.Test.YtnddhkhmbjeefaaP21
import Derived.Test.YtnddhkhmbjeefaaP06
import Derived.Test.YtnddhkhmbjeefaaP16
import Derived.Deep.OwnRows
namespace Go.Proofs.Ytnddhkhmbjeefaa
open Go.RowKit

theorem put_all {α : Type} [DecidableEq α] : ∀ (cs L : List α), L.Nodup → ∃ U, (L ++ U).Nodup ∧ (∀ r ∈ U, r ∈ cs) ∧ ∀ r ∈ cs, r ∈ L ++ U
  | [], L, h => ⟨[], by simpa using h, by simp, by simp⟩
  | c :: cs, L, h => by
    obtain ⟨U0, e0, h0⟩ := plc_ext L c
    have n0 := plc_nodup h c
    obtain ⟨U, h1, h2, h3⟩ := put_all cs (plc L c) n0
    have mc := plc_mem L c
    rw [e0] at h1 h3 mc
    refine ⟨U0 ++ U, by rw [← List.append_assoc]; exact h1, fun r hr => ?_, fun r hr => ?_⟩
    · rcases List.mem_append.1 hr with hr | hr
      · rw [h0 r hr]; exact List.mem_cons_self
      · exact List.mem_cons_of_mem _ (h2 r hr)
    · rw [← List.append_assoc]
      rcases List.mem_cons.1 hr with rfl | hr
      · exact List.mem_append_left _ mc
      · exact h3 r hr
section
variable {S : List Int} {X T : List Lay} {b : Lay}
theorem split_ex (W : Wf S (X ++ b :: T)) : ∀ (d i : Nat), i + d = X.length → ∀ (Y : List Lay), TInv S X b T Y → ∀ (t : Int), inW (X.drop i ++ b :: T) t → ∃ Y' x, TInv S X b T Y' ∧ ExtL Y Y' ∧ SplOk S X b T Y' i t x
  | 0, i, hd, Y, h, t, ht => by
    have e : i = X.length := by omega
    subst e
    rw [List.drop_length, List.nil_append] at ht
    obtain ⟨x, hx, _⟩ := W.tail.1.at ht
    exact ⟨Y, x, h, ExtL.refl _, SplOk.base h.len W.tail ht hx⟩
  | d + 1, i, hd, Y, h, t, ht => by
    have hi : i < X.length := by omega
    have ed : X.drop i ++ b :: T = X[i] :: (X.drop (i + 1) ++ b :: T) := by rw [List.drop_eq_getElem_cons hi]; rfl
    have Wi : Wf S (X[i] :: (X.drop (i + 1) ++ b :: T)) := by rw [← ed]; exact W.drop i
    have ht' := ht
    rw [ed] at ht'
    obtain ⟨g, hg, hgw⟩ := Wi.1.at ht'
    have key : ∀ n, n ≤ (szL S (X[i]).1).toNat → ∃ Y', ∃ H : Nat → Nat → Int, TInv S X b T Y' ∧ ExtL Y Y' ∧ ∀ a, a < n → SplOk S X b T Y' (i + 1) (g a) (H a) := by
      intro n
      induction n with
      | zero => exact fun _ => ⟨Y, fun _ _ => 0, h, ExtL.refl _, fun a ha => by omega⟩
      | succ n ih =>
        intro hn
        obtain ⟨Y1, H1, t1, e1, s1⟩ := ih (by omega)
        obtain ⟨Y2, x2, t2, e2, s2⟩ := split_ex W d (i + 1) (by omega) Y1 t1 (g n) (hgw n (by omega))
        refine ⟨Y2, fun a => if a = n then x2 else H1 a, t2, e1.trans e2, fun a ha => ?_⟩
        by_cases e : a = n
        · subst e; simp only [if_true]; exact s2
        · simp only [if_neg e]; exact (s1 a (by omega)).ext t1 e2
    obtain ⟨Y1, H, t1, e1, s1⟩ := key _ (Nat.le_refl _)
    have hiy : i < Y1.length := by rw [t1.len]; exact hi
    have Wy : Wf S (Y1[i] :: (Y1.drop (i + 1) ++ T)) := by
      have := t1.wf.drop i
      rw [List.drop_eq_getElem_cons hiy] at this
      exact this
    obtain ⟨U, u1, u2, u3⟩ := put_all ((List.range (szL S b.1).toNat).map fun c => rlN (fun a => H a c) (szL S (X[i]).1).toNat) (Y1[i]).2 Wy.1.nod
    have hex : ∀ c, c < (szL S b.1).toNat → ∃ k : Nat, ((Y1[i]).2 ++ U)[k]? = some (rlN (fun a => H a c) (szL S (X[i]).1).toNat) := fun c hc => by
      obtain ⟨k, hk, e⟩ := List.getElem_of_mem (u3 _ (List.mem_map.2 ⟨c, List.mem_range.2 hc, rfl⟩))
      exact ⟨k, by rw [List.getElem?_eq_getElem hk, e]⟩
    obtain ⟨idx, hidx⟩ : ∃ idx : Nat → Int, ∀ c, c < (szL S b.1).toNat → 0 ≤ idx c ∧ ((Y1[i]).2 ++ U)[(idx c).toNat]? = some (rlN (fun a => H a c) (szL S (X[i]).1).toNat) := by
      classical
      refine ⟨fun c => if hc : c < (szL S b.1).toNat then (((hex c hc).choose : Nat) : Int) else 0, fun c hc => ?_⟩
      simp only [dif_pos hc]
      exact ⟨Int.natCast_nonneg _, by rw [Int.toNat_natCast]; exact (hex c hc).choose_spec⟩
    obtain ⟨r1, r2, r3⟩ := turn_ok t1 W hi ht (List.getElem?_eq_getElem hi) (List.getElem?_eq_getElem hiy) hg s1 u1 (fun r hr => by
      obtain ⟨c, hc, e⟩ := List.mem_map.1 (u2 r hr)
      exact ⟨c, List.mem_range.1 hc, e.symm⟩) hidx
    exact ⟨_, idx, r1, e1.trans r2, r3⟩
/-- The lifted level's rows. -/
theorem rows_ex (hS : SzOk S) (W : Wf S (X ++ b :: T)) : ∃ Y, ∃ fr : List (List Rn), TInv S X b T Y ∧ fr.length = wid (X ++ b :: T) ∧ ∀ t (ht : t < fr.length), ∃ x, fr[t] = rlN x (szL S b.1).toNat ∧ SplOk S X b T Y 0 (t : Int) x := by
  have key : ∀ n, n ≤ wid (X ++ b :: T) → ∃ Y, ∃ fr : List (List Rn), TInv S X b T Y ∧ fr.length = n ∧ ∀ t (ht : t < fr.length), ∃ x, fr[t] = rlN x (szL S b.1).toNat ∧ SplOk S X b T Y 0 (t : Int) x := by
    intro n
    induction n with
    | zero => exact fun _ => ⟨_, [], TInv.start hS W, rfl, fun t ht => by cases ht⟩
    | succ n ih =>
      intro hn
      obtain ⟨Y1, fr, t1, l1, s1⟩ := ih (by omega)
      obtain ⟨Y2, x, t2, e2, s2⟩ := split_ex W X.length 0 (by omega) Y1 t1 (n : Int) (by rw [List.drop_zero]; exact ⟨by omega, by omega⟩)
      refine ⟨Y2, fr ++ [rlN x (szL S b.1).toNat], t2, by rw [List.length_append, l1]; rfl, fun t ht => ?_⟩
      rw [List.length_append, List.length_singleton] at ht
      by_cases e : t < fr.length
      · rw [List.getElem_append_left e]
        obtain ⟨y, y1, y2⟩ := s1 t e
        exact ⟨y, y1, y2.ext t1 e2⟩
      · obtain rfl : t = fr.length := by omega
        rw [List.getElem_append_right (Nat.le_refl _)]
        refine ⟨x, by simp, ?_⟩
        rw [l1]
        exact s2
  exact key _ (Nat.le_refl _)
/-- A level may be taken ahead of others. -/
theorem lift_ex {A : List Lay} {F : List Phi} {R : List Int} (hS : SzOk S) (G : GD S F R (A ++ (X ++ b :: T))) : ∃ L', GD S F R L' ∧ L'.map (·.1) = A.map (·.1) ++ b.1 :: (X.map (·.1) ++ T.map (·.1)) := by
  obtain ⟨Y, fr, h1, h2, h3⟩ := rows_ex hS (G.wf.tail (A := A))
  refine ⟨_, lift_good hS G h1 h2 h3, ?_⟩
  rw [List.map_append, List.map_cons, List.map_append, h1.lv]
end
end Go.Proofs.Ytnddhkhmbjeefaa
/-
  For each order there is a diagram of the same functions. In pure words; of no program: no condition.
-/
namespace Go.Proofs.Ytnddhkhmbjeefaa
open Go.RowKit

section
variable {S : List Int} {F : List Phi} {R : List Int} {L : List Lay} {o : List Int}
theorem order_step (hS : SzOk S) (ho : IsOrd S o) (G : GD S F R L) {k : Nat} (hk : k < o.length) (ht : (L.map (·.1)).take k = o.take k) : ∃ L', GD S F R L' ∧ (L'.map (·.1)).take (k + 1) = o.take (k + 1) := by
  have hL : IsOrd S (L.map (·.1)) := G.wf.ord G.len
  have hr := ho.rng _ (List.getElem_mem hk)
  have hm : o[k] ∈ L.map (·.1) := by
    have := hL.mem (j := (o[k]).toNat) (by omega)
    rwa [Int.toNat_of_nonneg hr.1] at this
  have hn : o[k] ∉ o.take k := fun hin => by
    obtain ⟨i, hi, e⟩ := List.getElem_of_mem hin
    rw [List.length_take] at hi
    rw [List.getElem_take] at e
    exact List.pairwise_iff_getElem.1 ho.nod i k (by omega) hk (by omega) e
  have hd : o[k] ∈ (L.drop k).map (·.1) := by
    rw [← List.take_append_drop k (L.map (·.1)), List.mem_append, ht] at hm
    rw [List.map_drop]
    exact hm.resolve_left hn
  obtain ⟨b, hb, eb⟩ := List.mem_map.1 hd
  obtain ⟨X, T, eD⟩ := List.append_of_mem hb
  have G' : GD S F R (L.take k ++ (X ++ b :: T)) := by rw [← eD, List.take_append_drop]; exact G
  obtain ⟨L', g1, g2⟩ := lift_ex hS G'
  have hlen : (L.take k).length = k := by
    have h1 := hL.len
    have h2 := ho.len
    rw [List.length_map] at h1
    rw [List.length_take]
    omega
  refine ⟨L', g1, ?_⟩
  rw [g2, List.take_append, List.length_map, hlen, List.take_of_length_le (by rw [List.length_map, hlen]; omega), show k + 1 - k = 1 by omega, List.map_take, ht, List.take_succ_eq_append_getElem hk, eb]
  rfl
/-- For each order there is a diagram. -/
theorem order_ex (hS : SzOk S) (ho : IsOrd S o) (G : GD S F R L) : ∃ L', GD S F R L' ∧ L'.map (·.1) = o := by
  have key : ∀ k, k ≤ o.length → ∃ L', GD S F R L' ∧ (L'.map (·.1)).take k = o.take k := by
    intro k
    induction k with
    | zero => exact fun _ => ⟨L, G, by simp⟩
    | succ k ih =>
      intro hk
      obtain ⟨L1, g1, g2⟩ := ih (by omega)
      exact order_step hS ho g1 (by omega) g2
  obtain ⟨L', g1, g2⟩ := key o.length (Nat.le_refl _)
  refine ⟨L', g1, ?_⟩
  have h1 := (g1.wf.ord g1.len).len
  have h2 := ho.len
  rwa [List.take_length, List.take_of_length_le (by omega)] at g2
end
end Go.Proofs.Ytnddhkhmbjeefaa
/-
  How many rows a diagram's layers have at most. In pure words; of no program: at most 7 levels of at most 4 classes, at most 4095 functions.
-/
namespace Go.Proofs.Ytnddhkhmbjeefaa
open Go.RowKit

/-- What a point says of some levels, as a number. -/
def encQ (s : Nat) : List Int → (Nat → Nat) → Nat
  | [], _ => 0
  | a :: A, q => q a.toNat + s * encQ s A q
theorem enc_lt {s : Nat} {q : Nat → Nat} : ∀ {A : List Int}, (∀ a ∈ A, q a.toNat < s) → encQ s A q < s ^ A.length
  | [], _ => by simp [encQ]
  | a :: A, h => by
    have h1 := h a (by simp)
    have h2 := enc_lt (A := A) (fun b hb => h b (by simp [hb]))
    have h3 := Nat.mul_le_mul_left s (Nat.succ_le_of_lt h2)
    rw [Nat.mul_succ] at h3
    simp only [encQ, List.length_cons, Nat.pow_succ]
    rw [Nat.mul_comm (s ^ A.length) s]
    omega
theorem enc_inj {s : Nat} {q q' : Nat → Nat} : ∀ {A : List Int}, (∀ a ∈ A, q a.toNat < s) → (∀ a ∈ A, q' a.toNat < s) → encQ s A q = encQ s A q' → ∀ a ∈ A, q a.toNat = q' a.toNat
  | [], _, _, _, a, h => by simp at h
  | a :: A, h, h', e, x, hx => by
    have h1 := h a (by simp)
    have h2 := h' a (by simp)
    simp only [encQ] at e
    have e1 : (q a.toNat + s * encQ s A q) % s = (q' a.toNat + s * encQ s A q') % s := by rw [e]
    rw [Nat.add_mul_mod_self_left, Nat.add_mul_mod_self_left, Nat.mod_eq_of_lt h1, Nat.mod_eq_of_lt h2] at e1
    have e2 : s * encQ s A q = s * encQ s A q' := by omega
    have e3 := Nat.eq_of_mul_eq_mul_left (by omega : 0 < s) e2
    rcases List.mem_cons.1 hx with rfl | hm
    · exact e1
    · exact enc_inj (fun b hb => h b (by simp [hb])) (fun b hb => h' b (by simp [hb])) e3 x hm
/-- Few levels, classes, functions. -/
structure Sml (S : List Int) (F : List Phi) : Prop where
  len : S.length ≤ 7
  few : ∀ x ∈ S, x ≤ 4
  fns : ∃ Gs : List Phi, Gs.length ≤ 4095 ∧ ∀ φ ∈ F, φ ∈ Gs
section
variable {S : List Int} {F : List Phi} {R : List Int} {L : List Lay}
theorem Sml.sz (h : Sml S F) (lv : Int) : szL S lv ≤ 4 := by
  show S.getD lv.toNat 0 ≤ 4
  rcases Nat.lt_or_ge lv.toNat S.length with hl | hl
  · rw [List.getD_eq_getElem?_getD, List.getElem?_eq_getElem hl]; exact h.few _ (List.getElem_mem _)
  · rw [List.getD_eq_getElem?_getD, List.getElem?_eq_none hl]; simp
theorem GD.rows_le (hS : SzOk S) (hm : Sml S F) (G : GD S F R L) {A : List Lay} {l : Lay} {T : List Lay} (e : L = A ++ l :: T) : l.2.length ≤ 16777216 := by
  obtain ⟨Gs, hG, hF⟩ := hm.fns
  have hA : A.length ≤ 6 := by
    have h1 := G.len
    rw [e, List.length_append, List.length_cons] at h1
    have := hm.len
    omega
  have hw : Wf S (l :: T) := by
    have := G.wf
    rw [e] at this
    exact this.tail
  have hK0 : 0 < 4 ^ A.length := Nat.pow_pos (by omega)
  have hK : 4 ^ A.length ≤ 4 ^ 6 := Nat.pow_le_pow_right (by omega) hA
  have hlvA : ∀ a ∈ A.map (·.1), 0 ≤ a ∧ a < (S.length : Int) := fun a ha => G.wf.ge a (by rw [e, List.map_append]; exact List.mem_append_left _ ha)
  have hq4 : ∀ {q : Nat → Nat}, Pnt S q → ∀ a ∈ A.map (·.1), q a.toNat < 4 := fun {q} hq a ha => by
    have h1 := hlvA a ha
    have h2 := hq a.toNat (by omega)
    have h3 : S.getD a.toNat 0 ≤ 4 := hm.sz a
    omega
  have := pigR (R := fun (x b : Nat) => ∃ q, Pnt S q ∧ ∃ φ, Gs[b / 4 ^ A.length]? = some φ ∧ encQ 4 (A.map (·.1)) q = b % 4 ^ A.length ∧ ∀ p, Pnt S p → sayL (l :: T) ((x : Int) + 2) p = φ (mixP (A.map (·.1)) q p)) (List.range (l.2.length - 2)) (List.range (Gs.length * 4 ^ A.length)) List.nodup_range (fun x hx => by
      have hx' := List.mem_range.1 hx
      obtain ⟨k, hk, q, hq, hs⟩ := G.rch A l T e ((x : Int) + 2) (by omega) (by omega)
      obtain ⟨i, hi, ei⟩ := List.getElem_of_mem (hF _ (List.getElem_mem hk))
      have hlt : encQ 4 (A.map (·.1)) q < 4 ^ A.length := by
        have := enc_lt (s := 4) (hq4 hq)
        rwa [List.length_map] at this
      refine ⟨i * 4 ^ A.length + encQ 4 (A.map (·.1)) q, List.mem_range.2 ?_, q, hq, F[k], ?_, ?_, hs⟩
      · have h1 := Nat.mul_le_mul_right (4 ^ A.length) (Nat.succ_le_of_lt hi)
        rw [Nat.succ_mul] at h1
        omega
      · rw [show (i * 4 ^ A.length + encQ 4 (A.map (·.1)) q) / 4 ^ A.length = i by
          rw [Nat.mul_comm, Nat.mul_add_div hK0, Nat.div_eq_of_lt hlt, Nat.add_zero], List.getElem?_eq_getElem hi, ei]
      · rw [Nat.mul_comm, Nat.mul_add_mod, Nat.mod_eq_of_lt hlt]) (fun x hx y hy b ⟨q, hq, φ, e1, e2, e3⟩ ⟨q', hq', φ', e1', e2', e3'⟩ => by
      have hx' := List.mem_range.1 hx
      have hy' := List.mem_range.1 hy
      rw [e1] at e1'
      cases e1'
      have hqq := enc_inj (hq4 hq) (hq4 hq') (e2.trans e2'.symm)
      have := say_ne hS hw (x := (x : Int) + 2) (y := (y : Int) + 2) ⟨by omega, by show _ < (l.2.length : Int); omega⟩ ⟨by omega, by show _ < (l.2.length : Int); omega⟩ (fun p hp => by
        rw [e3 p hp, e3' p hp]
        refine congrArg _ (funext fun j => ?_)
        by_cases hj : (j : Int) ∈ A.map (·.1)
        · rw [mix_in hj, mix_in hj]
          have := hqq _ hj
          simpa using this
        · rw [mix_out hj, mix_out hj])
      omega)
  rw [List.length_range, List.length_range] at this
  have h4 : Gs.length * 4 ^ A.length ≤ 4095 * 4 ^ 6 := Nat.mul_le_mul hG hK
  omega
theorem GD.wid_le (hS : SzOk S) (hm : Sml S F) {A T : List Lay} (G : GD S F R (A ++ T)) : wid T ≤ 16777216 := by
  cases T with
  | nil => simp [wid]
  | cons l T => exact G.rows_le hS hm rfl
/-- Where lifting gives up there is no room in the end. -/
theorem give_up (hS : SzOk S) {A X T Y : List Lay} {b : Lay} (G : GD S F R (A ++ (X ++ b :: T))) (h0 : 0 < X.length) (h : TInv S X b T Y) {most : Nat} (h8 : most ≤ 8192) (hw : most + 2 < wid (Y ++ T)) {L' : List Lay} (G' : GD S F R L') {m : Nat} (hm : m ≤ L'.length) (ht : ∀ lv, lv ∈ (L'.map (·.1)).take m ↔ lv = b.1 ∨ lv ∈ A.map (·.1)) : most < nodesL L' := by
  refine many_nodes hS G' (W := Y ++ T) h.wf hm h8 hw (fun x h2 hx => ?_)
  obtain ⟨k, hk, q, hq, hs⟩ := h.reach hS G (i := 0) h0 h2 hx
  refine ⟨k, hk, q, hq, fun p hp => (hs p hp).trans ?_⟩
  refine congrArg _ (mix_perm (fun lv => ?_))
  rw [ht]
  simp [or_comm]
theorem fold_full (hS : SzOk S) {L' : List Lay} (G' : GD S F R L') {most : Nat} (h8 : most ≤ 8192) (hm : most < nodesL L') : (foldF S most F (L'.map (·.1))).2.1 = 2 := by
  rcases fold_nodes hS G' (M := (most : Int)) (by omega) (by omega) with ⟨e, hn⟩ | ⟨e, _⟩
  · have o := fold_out hS G' (M := (most : Int)) (by omega) (by omega)
    have := o.ok.few
    omega
  · exact e
end
end Go.Proofs.Ytnddhkhmbjeefaa
/-
  lift by one contract, wherever the level stands: the lifted diagram is one of the same functions; or there are too many nodes in whatever order begins so. Conditions: at most 7 levels of at most 4 classes, at most 4095 functions.
-/
namespace Go.Proofs.Ytnddhkhmbjeefaa
open Go.RowKit Go.Lib Go.Maps

/-- Whatever diagram begins with these levels has more than most nodes. -/
def Many (S : List Int) (F : List Phi) (R : List Int) (most : Int) (l : List Int) : Prop :=
  ∀ L', GD S F R L' → ∀ m, m ≤ L'.length → (∀ lv, lv ∈ (L'.map (·.1)).take m ↔ lv ∈ l) → most < (nodesL L' : Int)
/-- What lift leaves. -/
def LuL (S : List Int) (F : List Phi) (ra : Option Addr) (rc : Nat) (R : List Int) (A X : List LA) (b : LA) (T : List LA) (most : Int) (w : World) (e : Ending) (w' : World) : Prop :=
  ∃ r1 n1 c1 l1 n2 c2 bb, e = .returned (.tuple #[.agg #[.slice r1 n1 c1, .slice l1 n2 c2], .bool bb]) ∧ Below w.heap.size w w' ∧
    (bb = true → r1 = ra ∧ n1 = R.length ∧ c1 = rc ∧ ∃ lb Ls', l1 = some ⟨lb, 0, none⟩ ∧ n2 = Ls'.length ∧ DgX w' w'.heap.size ra lb c2 R Ls' ∧ GD S F R (layL Ls') ∧ ordL Ls' = ordL A ++ b.lv :: (ordL X ++ ordL T)) ∧
    (bb = false → Many S F R most (ordL A ++ [b.lv]))
section
variable {S : List Int} {F : List Phi} {w : World} {B lb lc rc : Nat} {ra : Option Addr} {R : List Int} {A X T : List LA} {b : LA} {most : Int}
theorem layL_mid : layL (A ++ (X ++ b :: T)) = layL A ++ (layL X ++ b.lay :: layL T) := by simp
theorem lift_u (hS : SzOk S) (hm : Sml S F) (G : GD S F R (layL (A ++ (X ++ b :: T)))) (D : DgX w B ra lb lc R (A ++ (X ++ b :: T))) (hm1 : -1 ≤ most) (h8 : most ≤ 8192) :
    Calls Try.prog 32 #[dgV ra R.length rc lb (A ++ (X ++ b :: T)).length lc, .int .i64 ((A.length + X.length : Nat) : Int), .int .i64 (A.length : Int), .int .i64 most] w fun e w' => LuL S F ra rc R A X b T most w e w' := by
  by_cases hX : X = []
  · subst hX
    refine Calls.mono (lift_same (A.length : Int) most) (fun e w' ⟨he, hb⟩ => ?_)
    exact ⟨_, _, _, _, _, _, _, he, hb, fun _ => ⟨rfl, rfl, rfl, lb, _, rfl, rfl, (D.below (hb.mono D.hB)).mono (Nat.le_trans D.hB hb.size) (Nat.le_refl _), G, by simp [LA.lay]⟩, fun h => by cases h⟩
  · have h0 : 0 < X.length := List.length_pos_iff.2 hX
    have G1 := G
    rw [layL_mid] at G1
    have hsz := hm.sz b.lv
    have hn := G.len
    rw [List.length_map] at hn
    have h7 := hm.len
    have hwx : ∀ i, i ≤ (layL X).length → wid ((layL X).drop i ++ b.lay :: layL T) ≤ 16777216 := fun i _ => by
      refine GD.wid_le hS hm (A := layL A ++ (layL X).take i) (T := (layL X).drop i ++ b.lay :: layL T) (F := F) (R := R) ?_
      rw [List.append_assoc, ← List.append_assoc _ ((layL X).drop i), List.take_append_drop]
      exact G1
    have hwt : wid (layL T) ≤ 16777216 := by
      refine GD.wid_le hS hm (A := layL A ++ (layL X ++ [b.lay])) (F := F) (R := R) ?_
      simpa using G1
    have h4 : (szL S b.lv).toNat ≤ 4 := by omega
    have hfew : (16777216 + 1) * (szL S b.lv).toNat ≤ (16777216 + 1) * 4 := Nat.mul_le_mul_left _ h4
    have hB : LfB S (layL X) b.lay (layL T) 16777216 := ⟨hS, G1.wf.tail, hwx, hwt, by show (16777216 + 1) * (szL S b.lv).toNat + 2 < _; omega⟩
    refine Calls.mono (lift_any hB (by omega) D h0 (by omega)) (fun e w' ⟨r1, n1, c1, l1, n2, c2, bb, he, hb, ht, hf⟩ => ?_)
    refine ⟨r1, n1, c1, l1, n2, c2, bb, he, hb, fun h => ?_, fun h => ?_⟩
    · obtain ⟨e1, e2, e3, e4, lb', Ls', Y, fr, e5, D', e6, hI, hl, hs⟩ := ht h
      have G2 := lift_good hS G1 hI hl hs
      have hY : Y.map (·.1) = ordL X := hI.lv
      refine ⟨e1, e2, e3, lb', Ls', e5, ?_, D', by rw [e6]; exact G2, ?_⟩
      · have := congrArg List.length e6
        have hYl := hI.len
        simp only [List.length_map, List.length_append, List.length_cons] at this e4 hYl ⊢
        omega
      · show (layL Ls').map (·.1) = _
        rw [e6]
        simp only [List.map_append, List.map_cons, hY]
    · obtain ⟨Y, hI, hw⟩ := hf h
      intro L' G' m hml ht
      by_cases h0m : 0 ≤ most
      · have := give_up hS G1 (by simpa using h0) hI (most := most.toNat) (by omega) (by omega) G' hml (fun lv => by rw [ht]; simp [LA.lay, or_comm])
        omega
      · omega
end
end Go.Proofs.Ytnddhkhmbjeefaa
/-
  Rows of numbers and of bools that were made whole: made, written into. Of the program its types alone: no condition.
-/
namespace Go.Proofs.Ytnddhkhmbjeefaa
open Go.RowKit Go.Lib Go.Maps

/-- A block that is just these numbers. -/
def RwZ (w : World) (b : Nat) (L : List Int) : Prop := w.heap[b]? = some (.cells (zC L).toArray 3 (0, 0))
theorem RwZ.lt {w : World} {b : Nat} {L : List Int} (h : RwZ w b L) : b < w.heap.size := lt_of_block h
theorem RwZ.zbk {w : World} {b : Nat} {L : List Int} (h : RwZ w b L) : ZBk w b L := ⟨_, h, fun i hi => by rw [List.getElem?_toArray, zC_get L hi]⟩
theorem RwZ.kept {F : Nat → Prop} {w w' : World} {b : Nat} {L : List Int} (h : RwZ w b L) (hk : Kept F w w') (hF : ¬ F b) : RwZ w' b L := (hk.block b h.lt hF).trans h
theorem RwZ.below {w w' : World} {b : Nat} {L : List Int} (h : RwZ w b L) (hk : Below w.heap.size w w') : RwZ w' b L := (hk.block b h.lt).trans h
theorem RwZ.set {w : World} {b : Nat} {L : List Int} (h : RwZ w b L) (k : Nat) (x : Int) : RwZ (w.setCell ⟨b, k, none⟩ (.int .i64 x)) b (L.set k x) := by
  unfold RwZ
  rw [block_setCell h k]
  congr 2
  apply Array.ext'
  simp [zC, List.map_set]
theorem RwZ.cell {w : World} {b : Nat} {L : List Int} (h : RwZ w b L) {k : Nat} (hk : k < L.length) : w.cell? ⟨b, k, none⟩ = some (.int .i64 (L.getD k 0)) := h.zbk.cell hk
theorem RwZ.fro {w : World} {b : Nat} {L : List Int} (h : RwZ w b L) (k : Nat) : w.frozen? ⟨b, k, none⟩ = false := frozen_of_row w b k _ _ h
theorem make_ints (n : Nat) (L : Int) (hL : L = (n : Int)) (hn : n ≤ 16777217) (V : World) : (Instr.makeSlice 22 (.int .i64 L) (.int .i64 L)).run Try.prog V = .ok (.slice (some ⟨V.heap.size, 0, none⟩) n n) (V.alloc (.cells (zC (List.replicate n 0)).toArray 3)) := by
  subst hL
  have := run_make_row' (P := Try.prog) 22 3 (.int .i64 0) 8 Try.underlying22 Try.info3 rfl .i64 .i64 n (by omega) (by omega) V
  rw [made_cells] at this
  rw [this]
  simp [zC]
theorem RwZ.made (V : World) (L : List Int) : RwZ (V.alloc (.cells (zC L).toArray 3)) V.heap.size L := heap_alloc_new V _
/-- A row of bools. -/
def bC (L : List Bool) : List Value := L.map Value.bool
theorem bC_length (L : List Bool) : (bC L).length = L.length := by simp [bC]
theorem bC_get (L : List Bool) {i : Nat} (h : i < L.length) : (bC L)[i]? = some (.bool (L.getD i false)) := by simp [bC, h, List.getD_eq_getElem?_getD]
theorem bC_snoc (L : List Bool) (x : Bool) : bC (L ++ [x]) = bC L ++ [.bool x] := by simp [bC]
theorem Try.info4 : (Try.prog.info? 4).map (fun i => (i.zero, i.size, i.bytes)) = some (some (.bool false), 1, 1) := by kernel_rfl
theorem make_bools (n : Nat) (L : Int) (hL : L = (n : Int)) (hn : n ≤ 16777217) (V : World) : (Instr.makeSlice 94 (.int .i64 L) (.int .i64 L)).run Try.prog V = .ok (.slice (some ⟨V.heap.size, 0, none⟩) n n) (V.alloc (.cells (bC (List.replicate n false)).toArray 4)) := by
  subst hL
  have := run_make_row' (P := Try.prog) 94 4 (.bool false) 1 Try.underlying94 Try.info4 rfl .i64 .i64 n (by omega) (by omega) V
  rw [made_cells] at this
  rw [this]
  simp [bC]
end Go.Proofs.Ytnddhkhmbjeefaa
