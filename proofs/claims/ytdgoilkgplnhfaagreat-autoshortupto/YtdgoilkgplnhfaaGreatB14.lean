/-
  What marks say: a text can be cut so that each piece takes its part. No condition.
-/
import Derived.Test.YtdgoilkgplnhfaaGreatB13
import Derived.Test.YtdgoilkgplnhfaaGreatB05
namespace Go.Proofs.YtdgoilkgplnhfaaGreat

section
variable (L : List Pc)
def mM (i : Nat) : Bool := manyK (L.getD i zPc).kind
def mT (i : Nat) (c : UInt8) : Bool := tkB (L.getD i zPc) ((c.toNat : Nat) : Int)
/-- Do the first i pieces take a text (its last byte first)? -/
def rm : Nat → By → Bool
  | 0, [] => true
  | 0, _ :: _ => false
  | i + 1, [] => mM L i && rm i []
  | i + 1, c :: v => if mM L i then rm i (c :: v) || (mT L i c && rm (i + 1) v) else mT L i c && rm i v
termination_by i v => (v.length, i)
theorem mM_out {i : Nat} (h : L.length ≤ i) : mM L i = false := by
  unfold mM
  rw [List.getD_eq_getElem?_getD, List.getElem?_eq_none h]
  rfl
theorem upd_self (f : Nat → Bool) (i : Nat) : upd f i i = true := by simp [upd]
theorem upd_ne {f : Nat → Bool} {i j : Nat} (h : ¬ j = i) : upd f i j = f j := by simp [upd, h]
theorem clF_succ (f : Nat → Bool) (k : Nat) : clF L f (k + 1) = if clF L f k k && mM L k then upd (clF L f k) (k + 1) else clF L f k := rfl
theorem clF_ne (f : Nat → Bool) (k : Nat) {j : Nat} (h : ¬ j = k + 1) : clF L f (k + 1) j = clF L f k j := by
  rw [clF_succ]
  split
  · exact upd_ne h
  · rfl
theorem clF_early (f : Nat → Bool) : ∀ (k : Nat) {j : Nat}, k < j → clF L f k j = f j
  | 0, _, _ => rfl
  | k + 1, j, h => by rw [clF_ne L f k (by omega), clF_early f k (by omega)]
theorem clF_late (f : Nat → Bool) (j : Nat) : ∀ (d : Nat), clF L f (j + d) j = clF L f j j
  | 0 => rfl
  | d + 1 => by rw [← Nat.add_assoc, clF_ne L f (j + d) (by omega), clF_late f j d]
theorem cl_zero (f : Nat → Bool) (n : Nat) : clF L f n 0 = f 0 := by
  have := clF_late L f 0 n
  rwa [Nat.zero_add] at this
theorem cl_succ (f : Nat → Bool) {n i : Nat} (h : i < n) : clF L f n (i + 1) = (f (i + 1) || (mM L i && clF L f n i)) := by
  have h1 := clF_late L f (i + 1) (n - (i + 1))
  rw [show i + 1 + (n - (i + 1)) = n by omega] at h1
  have h2 := clF_late L f i (n - i)
  rw [show i + (n - i) = n by omega] at h2
  rw [h1, h2, clF_succ]
  split
  · rename_i hh
    rw [upd_self]
    simp only [Bool.and_eq_true] at hh
    simp [hh.1, hh.2]
  · rename_i hh
    rw [clF_early L f i (by omega)]
    cases hc : clF L f i i <;> cases hm : mM L i <;> simp_all
theorem afF_succ (f : Nat → Bool) (c : UInt8) (k : Nat) : afF L f ((c.toNat : Nat) : Int) (k + 1) = if f k && mT L k c then (if mM L k then upd (afF L f ((c.toNat : Nat) : Int) k) k else upd (afF L f ((c.toNat : Nat) : Int) k) (k + 1)) else afF L f ((c.toNat : Nat) : Int) k := rfl
/-- What one byte leads to. -/
theorem af_is (f : Nat → Bool) (c : UInt8) : ∀ (k i : Nat), afF L f ((c.toNat : Nat) : Int) k i = ((decide (i < k) && (f i && mT L i c && mM L i)) || (decide (0 < i ∧ i - 1 < k) && (f (i - 1) && mT L (i - 1) c && !mM L (i - 1))))
  | 0, i => by simp [afF]
  | k + 1, i => by
    have ih := af_is f c k
    rw [afF_succ]
    by_cases hh : (f k && mT L k c) = true
    · rw [if_pos hh]
      by_cases hm : mM L k = true
      · rw [if_pos hm]
        by_cases hi : i = k
        · subst hi
          rw [upd_self]
          simp [hh, hm]
        · rw [upd_ne hi, ih i]
          have e1 : decide (i < k + 1) = decide (i < k) := by congr 1; simp; omega
          rw [e1]
          by_cases hp : 0 < i ∧ i - 1 = k
          · rw [hp.2, hm]; simp
          · have e2 : decide (0 < i ∧ i - 1 < k + 1) = decide (0 < i ∧ i - 1 < k) := by congr 1; simp; omega
            rw [e2]
      · rw [if_neg hm]
        simp only [Bool.not_eq_true] at hm
        by_cases hi : i = k + 1
        · subst hi
          rw [upd_self]
          simp [hh, hm]
        · rw [upd_ne hi, ih i]
          have e2 : decide (0 < i ∧ i - 1 < k + 1) = decide (0 < i ∧ i - 1 < k) := by congr 1; simp; omega
          rw [e2]
          by_cases hp : i = k
          · subst hp; rw [hm]; simp
          · have e1 : decide (i < k + 1) = decide (i < k) := by congr 1; simp; omega
            rw [e1]
    · rw [if_neg hh, ih i]
      simp only [Bool.not_eq_true] at hh
      by_cases h1 : i = k
      · subst h1
        rw [hh]
        by_cases hp : 0 < i
        · have e2 : decide (0 < i ∧ i - 1 < i + 1) = decide (0 < i ∧ i - 1 < i) := by congr 1; simp; omega
          rw [e2]; simp
        · have : i = 0 := by omega
          subst this; simp
      · have e1 : decide (i < k + 1) = decide (i < k) := by congr 1; simp; omega
        rw [e1]
        by_cases hp : 0 < i ∧ i - 1 = k
        · rw [hp.2, hh]; simp
        · have e2 : decide (0 < i ∧ i - 1 < k + 1) = decide (0 < i ∧ i - 1 < k) := by congr 1; simp; omega
          rw [e2]
/-- Marks behind a text (its last byte first). -/
def mF : By → (Nat → Bool)
  | [] => clF L (upd (fun _ => false) 0) L.length
  | c :: v => stF L (mF v) c
theorem mtF_rev (s : By) : mtF L s = mF L s.reverse := by
  suffices h : ∀ v : By, mtF L v.reverse = mF L v by
    have := h s.reverse
    rwa [List.reverse_reverse] at this
  intro v
  induction v with
  | nil => rfl
  | cons c v ih => rw [List.reverse_cons, mtF_snoc, ih]; rfl
theorem rm_00 : rm L 0 [] = true := by unfold rm; rfl
theorem rm_0c (c : UInt8) (v : By) : rm L 0 (c :: v) = false := by unfold rm; rfl
theorem rm_s0 (i : Nat) : rm L (i + 1) [] = (mM L i && rm L i []) := by conv => lhs; unfold rm
theorem rm_sc (i : Nat) (c : UInt8) (v : By) : rm L (i + 1) (c :: v) = if mM L i then rm L i (c :: v) || (mT L i c && rm L (i + 1) v) else mT L i c && rm L i v := by conv => lhs; unfold rm
theorem mF_is : ∀ (v : By) (i : Nat), i ≤ L.length → mF L v i = if mM L i then rm L (i + 1) v else rm L i v
  | [], i, hi => by
    induction i with
    | zero =>
      show clF L (upd (fun _ => false) 0) L.length 0 = _
      rw [cl_zero, upd_self, rm_s0, rm_00]
      cases mM L 0 <;> rfl
    | succ i ih =>
      have ih := ih (by omega)
      have e : mF L [] (i + 1) = (mM L i && mF L [] i) := by
        show clF L (upd (fun _ => false) 0) L.length (i + 1) = (mM L i && clF L (upd (fun _ => false) 0) L.length i)
        rw [cl_succ L _ (by omega), upd_ne (by omega), Bool.false_or]
      rw [e, ih, rm_s0 L (i + 1)]
      cases h1 : mM L (i + 1) <;> cases h2 : mM L i <;> simp [rm_s0, h2]
  | c :: v, i, hi => by
    have ihv := mF_is v
    have haf : ∀ j, j ≤ L.length → afF L (mF L v) ((c.toNat : Nat) : Int) L.length j = ((mF L v j && mT L j c && mM L j) || (decide (0 < j) && (mF L v (j - 1) && mT L (j - 1) c && !mM L (j - 1)))) := fun j hj => by
      rw [af_is]
      by_cases h1 : j < L.length
      · have e1 : decide (j < L.length) = true := decide_eq_true h1
        have e2 : decide (0 < j ∧ j - 1 < L.length) = decide (0 < j) := by congr 1; simp; omega
        rw [e1, e2, Bool.true_and]
      · have e1 : decide (j < L.length) = false := decide_eq_false h1
        have e2 : decide (0 < j ∧ j - 1 < L.length) = decide (0 < j) := by congr 1; simp; omega
        rw [e1, e2, mM_out L (by omega : L.length ≤ j)]
        simp
    induction i with
    | zero =>
      show clF L (afF L (mF L v) ((c.toNat : Nat) : Int) L.length) L.length 0 = _
      rw [cl_zero, haf 0 hi, ihv 0 hi, rm_sc, rm_0c]
      cases h : mM L 0 <;> simp [Bool.and_comm]
    | succ i ih =>
      have ih := ih (by omega)
      have e : mF L (c :: v) (i + 1) = (afF L (mF L v) ((c.toNat : Nat) : Int) L.length (i + 1) || (mM L i && mF L (c :: v) i)) := by
        show clF L (afF L (mF L v) ((c.toNat : Nat) : Int) L.length) L.length (i + 1) = (_ || (mM L i && clF L (afF L (mF L v) ((c.toNat : Nat) : Int) L.length) L.length i))
        rw [cl_succ L _ (by omega)]
      rw [e, ih, haf (i + 1) hi, ihv (i + 1) hi, Nat.add_sub_cancel, ihv i (by omega), rm_sc L (i + 1)]
      cases h1 : mM L (i + 1) <;> cases h2 : mM L i <;> simp [rm_sc, h2, Bool.and_comm, Bool.or_comm]
/-- What Match says. -/
theorem mtF_is (s : By) : mtF L s L.length = rm L L.length s.reverse := by
  rw [mtF_rev, mF_is L _ _ (Nat.le_refl _), mM_out L (Nat.le_refl _)]
  rfl
end
end Go.Proofs.YtdgoilkgplnhfaaGreat
/-
  Lists that came out, each in a block of its own: all marked, then grown one by one, each looked at K times; what was looked at stays. Of no program: no condition.
-/
namespace Go.Proofs.YtdgoilkgplnhfaaGreat
open Go.RowKit Go.Lib

section
variable {K : Nat} {TS T : TypeId} {sz : Nat} {mc : Nat → List Value}

/-- Between two lists: i have been grown, and looked at K times each. -/
structure KrO (K : Nat) (TS T : TypeId) (sz : Nat) (mc : Nat → List Value) (w : World) (base : Nat) (l o : Value) (D : List LD) (A : List LD) (i : Nat) : Prop where
  row : w.ownsRow base TS 1 l D.length (D.map LD.v)
  all : w.ownsRow base TS 1 o A.length (A.map LD.v)
  ol : ∀ k, o.ownBlock = some k → ¬ l.ownBlock = some k
  len : A.length = K * i
  views : ∀ j (hj : j < A.length), Vw T sz mc w (A[j]).v (A[j]).n (j / K) ∧ ∀ k, (A[j]).v.ownBlock = some k → ¬ FutL D i k
  lists : ∀ i' (h : i' < D.length), i ≤ i' → w.ownsRow base T sz (D[i']).v (D[i']).n (rep mc i' (D[i']).n)
  apart : ApartL D
/-- Within the i-th: x is what it has grown to. -/
structure Kr (K : Nat) (TS T : TypeId) (sz : Nat) (mc : Nat → List Value) (w : World) (base : Nat) (l o : Value) (D : List LD) (A : List LD) (i q : Nat) (x : Value) (nx : Nat) : Prop where
  row : w.ownsRow base TS 1 l D.length (D.map LD.v)
  all : w.ownsRow base TS 1 o A.length (A.map LD.v)
  ol : ∀ k, o.ownBlock = some k → ¬ l.ownBlock = some k
  len : A.length = K * i + q
  views : ∀ j (hj : j < A.length), Vw T sz mc w (A[j]).v (A[j]).n (j / K) ∧ ∀ k, (A[j]).v.ownBlock = some k → ¬ FutL D (i + 1) k ∧ (x.ownBlock = some k → j / K = i ∧ (A[j]).n ≤ nx)
  own : w.ownsRow base T sz x nx (rep mc i nx)
  xf : ∀ k, x.ownBlock = some k → ¬ FutL D (i + 1) k
  lists : ∀ i' (h : i' < D.length), i + 1 ≤ i' → w.ownsRow base T sz (D[i']).v (D[i']).n (rep mc i' (D[i']).n)
  apart : ApartL D

theorem KrO.below {w w' : World} {base : Nat} {l o : Value} {D A : List LD} {i : Nat} (h : KrO K TS T sz mc w base l o D A i) (hb : Below w.heap.size w w') : KrO K TS T sz mc w' base l o D A i :=
  ⟨own_below h.row hb, own_below h.all hb, h.ol, h.len, fun j hj => ⟨(h.views j hj).1.below hb, (h.views j hj).2⟩, fun i' h1 h2 => own_below (h.lists i' h1 h2) hb, h.apart⟩
theorem Kr.below {w w' : World} {base : Nat} {l o : Value} {D A : List LD} {i q : Nat} {x : Value} {nx : Nat} (h : Kr K TS T sz mc w base l o D A i q x nx) (hb : Below w.heap.size w w') : Kr K TS T sz mc w' base l o D A i q x nx :=
  ⟨own_below h.row hb, own_below h.all hb, h.ol, h.len, fun j hj => ⟨(h.views j hj).1.below hb, (h.views j hj).2⟩, own_below h.own hb, h.xf, fun i' h1 h2 => own_below (h.lists i' h1 h2) hb, h.apart⟩
theorem KrO.start {w : World} {base : Nat} {l : Value} {D : List LD} (h : LsAt TS T sz w base l D (fun i => rep mc i ((D[i]?.map LD.n).getD 0))) : KrO K TS T sz mc w base l (.slice none 0 0) D [] 0 :=
  ⟨h.row, World.ownsRow_nil w base TS 1, fun k hk => (by cases hk), rfl, fun j hj => (by simp at hj), fun i' h1 _ => by have := h.each i' h1; simpa [h1] using this, h.apart⟩
theorem KrO.enter {w : World} {base : Nat} {l o : Value} {D A : List LD} {i : Nat} (h : KrO K TS T sz mc w base l o D A i) (hi : i < D.length) : Kr K TS T sz mc w base l o D A i 0 (D[i]).v (D[i]).n := by
  refine ⟨h.row, h.all, h.ol, h.len, fun j hj => ⟨(h.views j hj).1, fun k hk => ⟨fun ⟨i', h1, h2, h3⟩ => (h.views j hj).2 k hk ⟨i', h1, by omega, h3⟩, fun hx => ?_⟩⟩, h.lists i hi (Nat.le_refl _), fun k hk => ?_, fun i' h1 h2 => h.lists i' h1 (by omega), h.apart⟩
  · exact absurd ⟨i, hi, Nat.le_refl _, hx⟩ ((h.views j hj).2 k hk)
  · rintro ⟨i', h1, h2, h3⟩
    exact h.apart.ne hi h1 (by omega) hk h3
theorem Kr.leave {w : World} {base : Nat} {l o : Value} {D A : List LD} {i : Nat} {x : Value} {nx : Nat} (h : Kr K TS T sz mc w base l o D A i K x nx) : KrO K TS T sz mc w base l o D A (i + 1) :=
  ⟨h.row, h.all, h.ol, by have := h.len; rw [Nat.mul_succ]; exact this, fun j hj => ⟨(h.views j hj).1, fun k hk => ((h.views j hj).2 k hk).1⟩, h.lists, h.apart⟩
/-- all = append(all, x) -/
theorem Kr.push (hmc : ∀ i, (mc i).length = sz) (hne : TS ≠ T) {w w' : World} {base : Nat} {l o o' : Value} {D A : List LD} {i q : Nat} {x : Value} {nx : Nat} (h : Kr K TS T sz mc w base l o D A i q x nx) (hq : q < K)
    (h1 : w'.ownsRow base TS 1 o' (A.length + 1) (A.map LD.v ++ [x])) (h2 : AppAt w w' o o') : Kr K TS T sz mc w' base l o' D (A ++ [⟨x, nx⟩]) i (q + 1) x nx := by
  have hk : ∃ F : Nat → Prop, Kept F w w' ∧ (∀ k, F k → o.ownBlock = some k) := by
    rcases h2 with ⟨g, a, b, c⟩ | ⟨a, b⟩
    · exact ⟨fun k => some g = some k, kept_of_grown c, fun k hk => a.trans hk⟩
    · exact ⟨fun _ => False, Kept.of_below (below_of_grown a), fun k hk => hk.elim⟩
  obtain ⟨F, hk, hF⟩ := hk
  refine ⟨own_kept h.row hk (fun k h3 h4 => h.ol k (hF k h4) h3), by rw [List.map_append, List.length_append]; exact h1, ?_, by rw [List.length_append, h.len]; rfl, ?_, own_kept h.own hk (fun k h3 h4 => own_ne h.all h.own hne k (hF k h4) h3), h.xf, fun i' h3 h4 => own_kept (h.lists i' h3 h4) hk (fun k h5 h6 => own_ne h.all (h.lists i' h3 h4) hne k (hF k h6) h5), h.apart⟩
  · intro k hk'
    rcases h2 with ⟨g, a, b, c⟩ | ⟨a, b⟩
    · rw [b] at hk'
      exact h.ol k (a.trans hk')
    · intro hl
      have := b k hk'
      have := (World.ownsRow.lt h.row k hl).2
      omega
  · intro j hj
    by_cases hja : j < A.length
    · rw [List.getElem_append_left hja]
      obtain ⟨v1, v2⟩ := h.views j hja
      refine ⟨v1.kept hk (fun k h3 h4 => ?_), v2⟩
      obtain ⟨cs, h5⟩ := v1.ty k h3
      obtain ⟨cs', h6⟩ := own_ty h.all k (hF k h4)
      rw [h5] at h6
      simp at h6
      exact hne h6.2.symm
    · have hje : j = A.length := by rw [List.length_append] at hj; simp at hj; omega
      subst hje
      rw [List.getElem_append_right (Nat.le_refl _)]
      simp only [Nat.sub_self, List.getElem_cons_zero]
      rw [h.len, show (K * i + q) / K = i by rw [Nat.mul_add_div (by omega), Nat.div_eq_of_lt hq, Nat.add_zero]]
      exact ⟨(Vw.of_own hmc h.own).kept hk (fun k h3 h4 => own_ne h.all h.own hne k (hF k h4) h3), fun k hk => ⟨h.xf k hk, fun _ => ⟨rfl, Nat.le_refl _⟩⟩⟩
/-- x = append(x, a mark) -/
theorem Kr.grow (hmc : ∀ i, (mc i).length = sz) (hne : TS ≠ T) {w w' : World} {base : Nat} {l o : Value} {D A : List LD} {i q : Nat} {x x' : Value} {nx : Nat} (h : Kr K TS T sz mc w base l o D A i q x nx)
    (h1 : w'.ownsRow base T sz x' (nx + 1) (rep mc i nx ++ mc i)) (h2 : AppAt w w' x x') : Kr K TS T sz mc w' base l o D A i q x' (nx + 1) := by
  rw [← rep_succ] at h1
  rcases h2 with ⟨g, a, b, c⟩ | ⟨a, b⟩
  · have hk := kept_of_grown c
    refine ⟨own_kept h.row hk (fun k h3 h4 => ?_), own_kept h.all hk (fun k h3 h4 => ?_), h.ol, h.len, fun j hj => ?_, h1, fun k hk' => h.xf k (by rw [a]; rw [b] at hk'; exact hk'), fun i' h3 h4 => own_kept (h.lists i' h3 h4) hk (fun k h5 h6 => ?_), h.apart⟩
    · cases h4
      exact own_ne h.row h.own hne g h3 a
    · cases h4
      exact own_ne h.all h.own hne g h3 a
    · obtain ⟨v1, v2⟩ := h.views j hj
      refine ⟨?_, fun k hk' => ⟨(v2 k hk').1, fun hx => ?_⟩⟩
      · by_cases hb : (A[j]).v.ownBlock = some g
        · obtain ⟨e1, e2⟩ := (v2 g hb).2 a
          rw [e1] at v1 ⊢
          exact v1.short hmc hb b h1 (by omega)
        · exact v1.kept hk (fun k h3 h4 => hb (h3.trans h4.symm))
      · have := (v2 k hk').2 (by rw [a]; rw [b] at hx; exact hx)
        exact ⟨this.1, by omega⟩
    · cases h6
      exact h.xf g a ⟨i', h3, h4, h5⟩
  · have hb := below_of_grown a
    refine ⟨own_below h.row hb, own_below h.all hb, h.ol, h.len, fun j hj => ?_, h1, fun k hk => ?_, fun i' h3 h4 => own_below (h.lists i' h3 h4) hb, h.apart⟩
    · obtain ⟨v1, v2⟩ := h.views j hj
      refine ⟨v1.below hb, fun k hk' => ⟨(v2 k hk').1, fun hx => ?_⟩⟩
      have := v1.lt k hk'
      have := b k hx
      omega
    · rintro ⟨i', h3, h4, h5⟩
      have := (World.ownsRow.lt (h.lists i' h3 h4) k h5).2
      have := b k hk
      omega
end
end Go.Proofs.YtdgoilkgplnhfaaGreat
/-
  Marks laid into lists that came out, and blocks of other types, which stay. Of no program: no condition.
-/
namespace Go.Proofs.YtdgoilkgplnhfaaGreat
open Go.RowKit Go.Lib

/-- Blocks of types outside Q stay. -/
def KeepT (Q : TypeId → Prop) (w w' : World) : Prop := ∀ (k : Nat) (cs : Array Value) (T : TypeId) (f : Nat × Nat), ¬ Q T → w.heap[k]? = some (.cells cs T f) → w'.heap[k]? = some (.cells cs T f)
theorem KeepT.refl (Q : TypeId → Prop) (w : World) : KeepT Q w w := fun _ _ _ _ _ h => h
theorem KeepT.trans {Q : TypeId → Prop} {a b c : World} (h : KeepT Q a b) (h' : KeepT Q b c) : KeepT Q a c := fun k cs T f h1 h3 => h' k cs T f h1 (h k cs T f h1 h3)
theorem KeepT.below {Q : TypeId → Prop} {a b : World} (h : Below a.heap.size a b) : KeepT Q a b := fun k _ _ _ _ h3 => (h.block k (lt_of_block h3)).trans h3
theorem KeepT.kept {Q : TypeId → Prop} {F : Nat → Prop} {a b : World} (h : Kept F a b) (hF : ∀ k, F k → ∃ cs T f, a.heap[k]? = some (.cells cs T f) ∧ Q T) : KeepT Q a b := fun k cs T f h1 h3 => (h.block k (lt_of_block h3) (fun hf => by
  obtain ⟨cs', T', f', h4, h5⟩ := hF k hf
  rw [h3] at h4
  simp at h4
  exact h1 (by rw [h4.2.1]; exact h5))).trans h3
theorem KeepT.own {Q : TypeId → Prop} {a b : World} {base size n : Nat} {e : TypeId} {v : Value} {xs : List Value} (ho : a.ownsRow base e size v n xs) (hq : Q e) (h : Kept (fun k => v.ownBlock = some k) a b) : KeepT Q a b :=
  KeepT.kept h (fun k hk => by obtain ⟨cs, h1⟩ := own_ty ho k hk; exact ⟨cs, e, _, h1, hq⟩)
theorem KeepT.app {Q : TypeId → Prop} {a b : World} {base size n : Nat} {e : TypeId} {v v' : Value} {xs : List Value} (h : AppAt a b v v') (ho : a.ownsRow base e size v n xs) (hq : Q e) : KeepT Q a b := by
  rcases h with ⟨g, h1, _, h3⟩ | ⟨h1, _⟩
  · exact KeepT.own ho hq ((kept_of_grown h3).mono (fun k hk => h1.trans hk))
  · exact KeepT.below (below_of_grown h1)
theorem own_keepT {Q : TypeId → Prop} {w w' : World} {base size n : Nat} {e : TypeId} {v : Value} {xs : List Value} (h : w.ownsRow base e size v n xs) (hk : KeepT Q w w') (hq : ¬ Q e) : w'.ownsRow base e size v n xs := by
  refine ⟨h.1, ?_⟩
  rcases h.2 with hn | ⟨g, cap, cur, rfl, hb', hg, r⟩
  · exact .inl hn
  · exact .inr ⟨g, cap, cur, rfl, hb', hk g _ _ _ hq hg, r⟩
theorem Vw.keepT {Q : TypeId → Prop} {T : TypeId} {sz : Nat} {mc : Nat → List Value} {w w' : World} {v : Value} {n i : Nat} (h : Vw T sz mc w v n i) (hk : KeepT Q w w') (hq : ¬ Q T) : Vw T sz mc w' v n i := by
  refine ⟨?_, fun k hb => ?_, h.le⟩
  · obtain ⟨ao, cap, rfl, h0 | ⟨g, rfl, hc⟩⟩ := h.shape
    · exact ⟨ao, cap, rfl, .inl h0⟩
    · obtain ⟨cs, h3⟩ := h.ty g rfl
      refine ⟨_, cap, rfl, .inr ⟨g, rfl, fun j hj => ?_⟩⟩
      rw [← hc j hj, cell_of_row _ _ _ _ _ _ h3, cell_of_row _ _ _ _ _ _ (hk g _ _ _ hq h3)]
  · obtain ⟨cs, h3⟩ := h.ty k hb
    exact ⟨cs, hk k _ _ _ hq h3⟩
section
variable {K : Nat} {TS T : TypeId} {sz : Nat} {mc : Nat → List Value} {Q : TypeId → Prop}
theorem LsAt.keepT {w w' : World} {base : Nat} {l : Value} {D : List LD} {X : Nat → List Value} (h : LsAt TS T sz w base l D X) (hk : KeepT Q w w') (h1 : ¬ Q TS) (h2 : ¬ Q T) : LsAt TS T sz w' base l D X :=
  ⟨own_keepT h.row hk h1, fun i hi => own_keepT (h.each i hi) hk h2, h.apart⟩
theorem KrO.keepT {w w' : World} {base : Nat} {l o : Value} {D A : List LD} {i : Nat} (h : KrO K TS T sz mc w base l o D A i) (hk : KeepT Q w w') (h1 : ¬ Q TS) (h2 : ¬ Q T) : KrO K TS T sz mc w' base l o D A i :=
  ⟨own_keepT h.row hk h1, own_keepT h.all hk h1, h.ol, h.len, fun j hj => ⟨(h.views j hj).1.keepT hk h2, (h.views j hj).2⟩, fun i' a b => own_keepT (h.lists i' a b) hk h2, h.apart⟩
end
/-- Values laid one behind the other. -/
def setL : List Value → Nat → List Value → List Value
  | xs, _, [] => xs
  | xs, o, v :: vs => setL (xs.set o v) (o + 1) vs
theorem setL_length : ∀ (vs xs : List Value) (o : Nat), (setL xs o vs).length = xs.length
  | [], _, _ => rfl
  | v :: vs, xs, o => by rw [setL, setL_length vs, List.length_set]
theorem setL_lo : ∀ (vs xs : List Value) (o j : Nat), j < o → (setL xs o vs)[j]? = xs[j]?
  | [], _, _, _, _ => rfl
  | v :: vs, xs, o, j, h => by rw [setL, setL_lo vs _ _ j (by omega), List.getElem?_set_ne (by omega)]
theorem setL_in : ∀ (vs xs : List Value) (o j : Nat), o ≤ j → j < o + vs.length → o + vs.length ≤ xs.length → (setL xs o vs)[j]? = vs[j - o]?
  | [], _, o, j, h, h2, _ => by simp at h2; omega
  | v :: vs, xs, o, j, h, h2, h3 => by
    rw [List.length_cons] at h2 h3
    rw [setL]
    by_cases hj : j = o
    · subst hj
      rw [setL_lo vs _ _ j (by omega), List.getElem?_set_self (by omega), Nat.sub_self]
      rfl
    · rw [setL_in vs _ _ j (by omega) (by omega) (by rw [List.length_set]; omega), show j - o = (j - (o + 1)) + 1 by omega, List.getElem?_cons_succ]
/-- The marks laid so far. -/
structure Mkg (TS T : TypeId) (sz : Nat) (mc : Nat → List Value) (w0 : World) (base : Nat) (l : Value) (D : List LD) (i k : Nat) (X : Nat → List Value) (w : World) : Prop where
  ls : LsAt TS T sz w base l D X
  done : ∀ i' (h : i' < D.length), i' < i → X i' = rep mc i' (D[i']).n
  part : ∀ j, j < k * sz → (X i)[j]? = (mc i)[j % sz]?
  below : Below base w0 w
  keep : KeepT (fun t => t = T) w0 w
section
variable {TS T : TypeId} {sz : Nat} {mc : Nat → List Value}
theorem Mkg.start {w : World} {base : Nat} {l : Value} {D : List LD} {X : Nat → List Value} (h : LsAt TS T sz w base l D X) : Mkg TS T sz mc w base l D 0 0 X w :=
  ⟨h, fun i' _ h => by omega, fun j h => by omega, Below.refl _ _, KeepT.refl _ _⟩
theorem Mkg.step (hmc : ∀ i, (mc i).length = sz) (hne : TS ≠ T) {w0 w w' : World} {base : Nat} {l : Value} {D : List LD} {i k : Nat} {X : Nat → List Value} (h : Mkg TS T sz mc w0 base l D i k X w) (hi : i < D.length) (hk : k < (D[i]).n)
    (h1 : w'.ownsRow base T sz (D[i]).v (D[i]).n (setL (X i) (k * sz) (mc i))) (h2 : Kept (fun j => (D[i]).v.ownBlock = some j) w w') (hbw : base ≤ w0.heap.size) : ∃ X', Mkg TS T sz mc w0 base l D i (k + 1) X' w' := by
  have hh := h.ls.each i hi
  have hl := hh.1
  have hkn : (k + 1) * sz ≤ (D[i]).n * sz := Nat.mul_le_mul_right sz hk
  rw [Nat.succ_mul] at hkn
  refine ⟨fun j => if j = i then setL (X i) (k * sz) (mc i) else X j, h.ls.turned hne hi h1 h2, fun i' hi' hlt => ?_, fun j hj => ?_, ?_, h.keep.trans (KeepT.own hh rfl h2)⟩
  · simp only [show ¬ i' = i by omega, if_false]
    exact h.done i' hi' hlt
  · simp only [if_true]
    rw [Nat.succ_mul] at hj
    by_cases hj2 : j < k * sz
    · rw [setL_lo _ _ _ _ hj2]
      exact h.part j hj2
    · rw [setL_in _ _ _ _ (by omega) (by rw [hmc]; omega) (by rw [hmc]; omega)]
      congr 1
      obtain ⟨d, rfl⟩ : ∃ d, j = k * sz + d := ⟨j - k * sz, by omega⟩
      rw [Nat.mul_comm k sz, Nat.mul_add_mod, Nat.mod_eq_of_lt (by omega)]
      omega
  · exact h.below.trans (h2.below (Nat.le_trans hbw h.below.size) (fun j hj => (World.ownsRow.lt hh j hj).1))
theorem Mkg.next (hmc : ∀ i, (mc i).length = sz) {w0 w : World} {base : Nat} {l : Value} {D : List LD} {i : Nat} {X : Nat → List Value} (hi : i < D.length) (h : Mkg TS T sz mc w0 base l D i (D[i]).n X w) : Mkg TS T sz mc w0 base l D (i + 1) 0 X w := by
  refine ⟨h.ls, fun i' h1 h2 => ?_, fun j hj => by omega, h.below, h.keep⟩
  rcases Nat.lt_or_ge i' i with h3 | h3
  · exact h.done i' h1 h3
  · obtain rfl : i' = i := by omega
    have hl := (h.ls.each i' hi).1
    apply List.ext_getElem?
    intro j
    by_cases hj : j < (D[i']).n * sz
    · rw [h.part j hj, rep_get hmc i' _ j hj]
    · rw [List.getElem?_eq_none (by omega), List.getElem?_eq_none (by rw [rep_length hmc]; omega)]
theorem Mkg.out {w0 w : World} {base : Nat} {l : Value} {D : List LD} {X : Nat → List Value} (h : Mkg TS T sz mc w0 base l D D.length 0 X w) : LsAt TS T sz w base l D (fun i => rep mc i ((D[i]?.map LD.n).getD 0)) := by
  refine ⟨h.ls.row, fun i hi => ?_, h.ls.apart⟩
  have := h.ls.each i hi
  rw [h.done i hi hi] at this
  simpa [hi] using this
end
/-- Two cells of a row, stored. -/
theorem row_st2 {w : World} {base n cap g : Nat} {T : TypeId} {xs : List Value} (h : w.ownsRow base T 2 (.slice (some ⟨g, 0, none⟩) n cap) n xs) {k : Nat} (hk : k < n) (a b : Value) :
    (∃ u, w.cell? ⟨g, k * 2, none⟩ = some u) ∧ w.frozen? ⟨g, k * 2, none⟩ = false ∧ (∃ u, (w.setCell ⟨g, k * 2, none⟩ a).cell? ⟨g, k * 2 + 1, none⟩ = some u) ∧ (w.setCell ⟨g, k * 2, none⟩ a).frozen? ⟨g, k * 2 + 1, none⟩ = false ∧
    ((w.setCell ⟨g, k * 2, none⟩ a).setCell ⟨g, k * 2 + 1, none⟩ b).ownsRow base T 2 (.slice (some ⟨g, 0, none⟩) n cap) n (setL xs (k * 2) [a, b]) ∧ Kept (fun j => some g = some j) w ((w.setCell ⟨g, k * 2, none⟩ a).setCell ⟨g, k * 2 + 1, none⟩ b) := by
  have hl := h.1
  obtain ⟨h3, h4⟩ := h.stored (k * 2) a
  obtain ⟨h5, h6⟩ := h3.stored (k * 2 + 1) b
  refine ⟨⟨xs[k * 2]'(by omega), ?_⟩, h.frozenAt _, ⟨(xs.set (k * 2) a)[k * 2 + 1]'(by rw [List.length_set]; omega), ?_⟩, h3.frozenAt _, h5, (kept_of_grown h4).trans (kept_of_grown h6)⟩
  · rw [h.cellAt (k * 2) (by omega)]; exact List.getElem?_eq_getElem _
  · rw [h3.cellAt (k * 2 + 1) (by omega)]; exact List.getElem?_eq_getElem _
/-- Four cells of a row, stored. -/
theorem row_st4 {w : World} {base n cap g : Nat} {T : TypeId} {xs : List Value} (h : w.ownsRow base T 4 (.slice (some ⟨g, 0, none⟩) n cap) n xs) {k : Nat} (hk : k < n) (a b c d : Value) :
    (∃ u, w.cell? ⟨g, k * 4, none⟩ = some u) ∧ w.frozen? ⟨g, k * 4, none⟩ = false ∧ (∃ u, (w.setCell ⟨g, k * 4, none⟩ a).cell? ⟨g, k * 4 + 1, none⟩ = some u) ∧ (w.setCell ⟨g, k * 4, none⟩ a).frozen? ⟨g, k * 4 + 1, none⟩ = false ∧
    (∃ u, ((w.setCell ⟨g, k * 4, none⟩ a).setCell ⟨g, k * 4 + 1, none⟩ b).cell? ⟨g, k * 4 + 2, none⟩ = some u) ∧ ((w.setCell ⟨g, k * 4, none⟩ a).setCell ⟨g, k * 4 + 1, none⟩ b).frozen? ⟨g, k * 4 + 2, none⟩ = false ∧
    (∃ u, (((w.setCell ⟨g, k * 4, none⟩ a).setCell ⟨g, k * 4 + 1, none⟩ b).setCell ⟨g, k * 4 + 2, none⟩ c).cell? ⟨g, k * 4 + 3, none⟩ = some u) ∧ (((w.setCell ⟨g, k * 4, none⟩ a).setCell ⟨g, k * 4 + 1, none⟩ b).setCell ⟨g, k * 4 + 2, none⟩ c).frozen? ⟨g, k * 4 + 3, none⟩ = false ∧
    ((((w.setCell ⟨g, k * 4, none⟩ a).setCell ⟨g, k * 4 + 1, none⟩ b).setCell ⟨g, k * 4 + 2, none⟩ c).setCell ⟨g, k * 4 + 3, none⟩ d).ownsRow base T 4 (.slice (some ⟨g, 0, none⟩) n cap) n (setL xs (k * 4) [a, b, c, d]) ∧ Kept (fun j => some g = some j) w ((((w.setCell ⟨g, k * 4, none⟩ a).setCell ⟨g, k * 4 + 1, none⟩ b).setCell ⟨g, k * 4 + 2, none⟩ c).setCell ⟨g, k * 4 + 3, none⟩ d) := by
  have hl := h.1
  obtain ⟨h3, h4⟩ := h.stored (k * 4) a
  obtain ⟨h5, h6⟩ := h3.stored (k * 4 + 1) b
  obtain ⟨h7, h8⟩ := h5.stored (k * 4 + 2) c
  obtain ⟨h9, h10⟩ := h7.stored (k * 4 + 3) d
  refine ⟨⟨xs[k * 4]'(by omega), ?_⟩, h.frozenAt _, ⟨(xs.set (k * 4) a)[k * 4 + 1]'(by rw [List.length_set]; omega), ?_⟩, h3.frozenAt _, ⟨((xs.set (k * 4) a).set (k * 4 + 1) b)[k * 4 + 2]'(by rw [List.length_set, List.length_set]; omega), ?_⟩, h5.frozenAt _, ⟨(((xs.set (k * 4) a).set (k * 4 + 1) b).set (k * 4 + 2) c)[k * 4 + 3]'(by rw [List.length_set, List.length_set, List.length_set]; omega), ?_⟩, h7.frozenAt _, h9, (((kept_of_grown h4).trans (kept_of_grown h6)).trans (kept_of_grown h8)).trans (kept_of_grown h10)⟩
  · rw [h.cellAt (k * 4) (by omega)]; exact List.getElem?_eq_getElem _
  · rw [h3.cellAt (k * 4 + 1) (by omega)]; exact List.getElem?_eq_getElem _
  · rw [h5.cellAt (k * 4 + 2) (by omega)]; exact List.getElem?_eq_getElem _
  · rw [h7.cellAt (k * 4 + 3) (by omega)]; exact List.getElem?_eq_getElem _
end Go.Proofs.YtdgoilkgplnhfaaGreat
