/-
  What marks say: a text can be cut so that each piece takes its part. No condition.
-/
import Derived.Test.YtdgoilkgplnhfaaGreatB39
import Derived.Test.YtdgoilkgplnhfaaGreatB12
import Derived.Test.YtdgoilkgplnhfaaGreatB13
import Derived.Test.YtdgoilkgplnhfaaGreatB36
import Derived.Laws.CopyOwn
import Derived.Test.YtdgoilkgplnhfaaGreatB17
import Derived.Test.YtdgoilkgplnhfaaGreatB37
namespace Go.Proofs.YtdgoilkgplnhfaaGreat

section
variable (L : List Pc)
def mM (i : Nat) : Bool := manyK (L.getD i zPc).kind
def mT (i : Nat) (c : UInt8) : Bool := tkB (L.getD i zPc) ((c.toNat : Nat) : Int)
/-- Do the first i pieces take a text (its last byte first)? -/
def rm : Nat → By → Bool
  | 0, [] => true
  | 0, _ :: _ => false
  | i + 1, [] => mM L i && rm i []
  | i + 1, c :: v => if mM L i then rm i (c :: v) || (mT L i c && rm (i + 1) v) else mT L i c && rm i v
termination_by i v => (v.length, i)
theorem mM_out {i : Nat} (h : L.length ≤ i) : mM L i = false := by
  unfold mM
  rw [List.getD_eq_getElem?_getD, List.getElem?_eq_none h]
  rfl
theorem upd_self (f : Nat → Bool) (i : Nat) : upd f i i = true := by simp [upd]
theorem upd_ne {f : Nat → Bool} {i j : Nat} (h : ¬ j = i) : upd f i j = f j := by simp [upd, h]
theorem clF_succ (f : Nat → Bool) (k : Nat) : clF L f (k + 1) = if clF L f k k && mM L k then upd (clF L f k) (k + 1) else clF L f k := rfl
theorem clF_ne (f : Nat → Bool) (k : Nat) {j : Nat} (h : ¬ j = k + 1) : clF L f (k + 1) j = clF L f k j := by
  rw [clF_succ]
  split
  · exact upd_ne h
  · rfl
theorem clF_early (f : Nat → Bool) : ∀ (k : Nat) {j : Nat}, k < j → clF L f k j = f j
  | 0, _, _ => rfl
  | k + 1, j, h => by rw [clF_ne L f k (by omega), clF_early f k (by omega)]
theorem clF_late (f : Nat → Bool) (j : Nat) : ∀ (d : Nat), clF L f (j + d) j = clF L f j j
  | 0 => rfl
  | d + 1 => by rw [← Nat.add_assoc, clF_ne L f (j + d) (by omega), clF_late f j d]
theorem cl_zero (f : Nat → Bool) (n : Nat) : clF L f n 0 = f 0 := by
  have := clF_late L f 0 n
  rwa [Nat.zero_add] at this
theorem cl_succ (f : Nat → Bool) {n i : Nat} (h : i < n) : clF L f n (i + 1) = (f (i + 1) || (mM L i && clF L f n i)) := by
  have h1 := clF_late L f (i + 1) (n - (i + 1))
  rw [show i + 1 + (n - (i + 1)) = n by omega] at h1
  have h2 := clF_late L f i (n - i)
  rw [show i + (n - i) = n by omega] at h2
  rw [h1, h2, clF_succ]
  split
  · rename_i hh
    rw [upd_self]
    simp only [Bool.and_eq_true] at hh
    simp [hh.1, hh.2]
  · rename_i hh
    rw [clF_early L f i (by omega)]
    cases hc : clF L f i i <;> cases hm : mM L i <;> simp_all
theorem afF_succ (f : Nat → Bool) (c : UInt8) (k : Nat) : afF L f ((c.toNat : Nat) : Int) (k + 1) = if f k && mT L k c then (if mM L k then upd (afF L f ((c.toNat : Nat) : Int) k) k else upd (afF L f ((c.toNat : Nat) : Int) k) (k + 1)) else afF L f ((c.toNat : Nat) : Int) k := rfl
/-- What one byte leads to. -/
theorem af_is (f : Nat → Bool) (c : UInt8) : ∀ (k i : Nat), afF L f ((c.toNat : Nat) : Int) k i = ((decide (i < k) && (f i && mT L i c && mM L i)) || (decide (0 < i ∧ i - 1 < k) && (f (i - 1) && mT L (i - 1) c && !mM L (i - 1))))
  | 0, i => by simp [afF]
  | k + 1, i => by
    have ih := af_is f c k
    rw [afF_succ]
    by_cases hh : (f k && mT L k c) = true
    · rw [if_pos hh]
      by_cases hm : mM L k = true
      · rw [if_pos hm]
        by_cases hi : i = k
        · subst hi
          rw [upd_self]
          simp [hh, hm]
        · rw [upd_ne hi, ih i]
          have e1 : decide (i < k + 1) = decide (i < k) := by congr 1; simp; omega
          rw [e1]
          by_cases hp : 0 < i ∧ i - 1 = k
          · rw [hp.2, hm]; simp
          · have e2 : decide (0 < i ∧ i - 1 < k + 1) = decide (0 < i ∧ i - 1 < k) := by congr 1; simp; omega
            rw [e2]
      · rw [if_neg hm]
        simp only [Bool.not_eq_true] at hm
        by_cases hi : i = k + 1
        · subst hi
          rw [upd_self]
          simp [hh, hm]
        · rw [upd_ne hi, ih i]
          have e2 : decide (0 < i ∧ i - 1 < k + 1) = decide (0 < i ∧ i - 1 < k) := by congr 1; simp; omega
          rw [e2]
          by_cases hp : i = k
          · subst hp; rw [hm]; simp
          · have e1 : decide (i < k + 1) = decide (i < k) := by congr 1; simp; omega
            rw [e1]
    · rw [if_neg hh, ih i]
      simp only [Bool.not_eq_true] at hh
      by_cases h1 : i = k
      · subst h1
        rw [hh]
        by_cases hp : 0 < i
        · have e2 : decide (0 < i ∧ i - 1 < i + 1) = decide (0 < i ∧ i - 1 < i) := by congr 1; simp; omega
          rw [e2]; simp
        · have : i = 0 := by omega
          subst this; simp
      · have e1 : decide (i < k + 1) = decide (i < k) := by congr 1; simp; omega
        rw [e1]
        by_cases hp : 0 < i ∧ i - 1 = k
        · rw [hp.2, hh]; simp
        · have e2 : decide (0 < i ∧ i - 1 < k + 1) = decide (0 < i ∧ i - 1 < k) := by congr 1; simp; omega
          rw [e2]
/-- Marks behind a text (its last byte first). -/
def mF : By → (Nat → Bool)
  | [] => clF L (upd (fun _ => false) 0) L.length
  | c :: v => stF L (mF v) c
theorem mtF_rev (s : By) : mtF L s = mF L s.reverse := by
  suffices h : ∀ v : By, mtF L v.reverse = mF L v by
    have := h s.reverse
    rwa [List.reverse_reverse] at this
  intro v
  induction v with
  | nil => rfl
  | cons c v ih => rw [List.reverse_cons, mtF_snoc, ih]; rfl
theorem rm_00 : rm L 0 [] = true := by unfold rm; rfl
theorem rm_0c (c : UInt8) (v : By) : rm L 0 (c :: v) = false := by unfold rm; rfl
theorem rm_s0 (i : Nat) : rm L (i + 1) [] = (mM L i && rm L i []) := by conv => lhs; unfold rm
theorem rm_sc (i : Nat) (c : UInt8) (v : By) : rm L (i + 1) (c :: v) = if mM L i then rm L i (c :: v) || (mT L i c && rm L (i + 1) v) else mT L i c && rm L i v := by conv => lhs; unfold rm
theorem mF_is : ∀ (v : By) (i : Nat), i ≤ L.length → mF L v i = if mM L i then rm L (i + 1) v else rm L i v
  | [], i, hi => by
    induction i with
    | zero =>
      show clF L (upd (fun _ => false) 0) L.length 0 = _
      rw [cl_zero, upd_self, rm_s0, rm_00]
      cases mM L 0 <;> rfl
    | succ i ih =>
      have ih := ih (by omega)
      have e : mF L [] (i + 1) = (mM L i && mF L [] i) := by
        show clF L (upd (fun _ => false) 0) L.length (i + 1) = (mM L i && clF L (upd (fun _ => false) 0) L.length i)
        rw [cl_succ L _ (by omega), upd_ne (by omega), Bool.false_or]
      rw [e, ih, rm_s0 L (i + 1)]
      cases h1 : mM L (i + 1) <;> cases h2 : mM L i <;> simp [rm_s0, h2]
  | c :: v, i, hi => by
    have ihv := mF_is v
    have haf : ∀ j, j ≤ L.length → afF L (mF L v) ((c.toNat : Nat) : Int) L.length j = ((mF L v j && mT L j c && mM L j) || (decide (0 < j) && (mF L v (j - 1) && mT L (j - 1) c && !mM L (j - 1)))) := fun j hj => by
      rw [af_is]
      by_cases h1 : j < L.length
      · have e1 : decide (j < L.length) = true := decide_eq_true h1
        have e2 : decide (0 < j ∧ j - 1 < L.length) = decide (0 < j) := by congr 1; simp; omega
        rw [e1, e2, Bool.true_and]
      · have e1 : decide (j < L.length) = false := decide_eq_false h1
        have e2 : decide (0 < j ∧ j - 1 < L.length) = decide (0 < j) := by congr 1; simp; omega
        rw [e1, e2, mM_out L (by omega : L.length ≤ j)]
        simp
    induction i with
    | zero =>
      show clF L (afF L (mF L v) ((c.toNat : Nat) : Int) L.length) L.length 0 = _
      rw [cl_zero, haf 0 hi, ihv 0 hi, rm_sc, rm_0c]
      cases h : mM L 0 <;> simp [Bool.and_comm]
    | succ i ih =>
      have ih := ih (by omega)
      have e : mF L (c :: v) (i + 1) = (afF L (mF L v) ((c.toNat : Nat) : Int) L.length (i + 1) || (mM L i && mF L (c :: v) i)) := by
        show clF L (afF L (mF L v) ((c.toNat : Nat) : Int) L.length) L.length (i + 1) = (_ || (mM L i && clF L (afF L (mF L v) ((c.toNat : Nat) : Int) L.length) L.length i))
        rw [cl_succ L _ (by omega)]
      rw [e, ih, haf (i + 1) hi, ihv (i + 1) hi, Nat.add_sub_cancel, ihv i (by omega), rm_sc L (i + 1)]
      cases h1 : mM L (i + 1) <;> cases h2 : mM L i <;> simp [rm_sc, h2, Bool.and_comm, Bool.or_comm]
/-- What Match says. -/
theorem mtF_is (s : By) : mtF L s L.length = rm L L.length s.reverse := by
  rw [mtF_rev, mF_is L _ _ (Nat.le_refl _), mM_out L (Nat.le_refl _)]
  rfl
end
end Go.Proofs.YtdgoilkgplnhfaaGreat
/-
  The states to which a first one leads, met breadth first, and what they make an automaton. Of no program: no condition.
-/
namespace Go.Proofs.YtdgoilkgplnhfaaGreat

/-- The state with a number. -/
def gS {S : Type} (z : S) (St : List S) (a : Nat) : S := St.getD a z
section
variable {S : Type} {z : S}
theorem gS_lt {St : List S} {a : Nat} (h : a < St.length) : gS z St a = St[a] := by unfold gS; simp [List.getD_eq_getElem?_getD, h]
theorem gS_left {St : List S} {x : S} {a : Nat} (h : a < St.length) : gS z (St ++ [x]) a = gS z St a := by unfold gS; simp [List.getD_eq_getElem?_getD, List.getElem?_append_left h]
theorem gS_last (St : List S) (x : S) : gS z (St ++ [x]) St.length = x := by unfold gS; simp [List.getD_eq_getElem?_getD]
end
/-- What has been met: i rows, j places of the next one. -/
structure ExS {S : Type} (z : S) (fo : S → Nat → S) (M : Nat) (St : List S) (NX : List Nat) (i j : Nat) : Prop where
  s0 : 0 < St.length ∧ gS z St 0 = z
  nd : ∀ a, a < St.length → ∀ b, b < St.length → gS z St a = gS z St b → a = b
  rch : ∀ a, a < St.length → ∃ u : List Nat, (∀ c ∈ u, c < M) ∧ u.foldl fo z = gS z St a
  len : NX.length = i * M + j
  jl : j ≤ M
  il : i ≤ St.length
  nxt : ∀ q, q < NX.length → gN NX q < St.length ∧ gS z St (gN NX q) = fo (gS z St (q / M)) (q % M)
section
variable {S : Type} {z : S} {fo : S → Nat → S} {M : Nat} {St : List S} {NX : List Nat} {i j : Nat}
theorem ExS.start : ExS z fo M [z] [] 0 0 := by
  refine ⟨⟨by simp, rfl⟩, fun a ha b hb _ => by simp at ha hb; omega, fun a ha => ⟨[], fun c hc => (List.not_mem_nil hc).elim, ?_⟩, by simp, by omega, by omega, fun q hq => by simp at hq⟩
  have : a = 0 := by simp at ha; omega
  subst this
  rfl
theorem ExS.old (h : ExS z fo M St NX i j) (hj : j < M) {v : Nat} (hv : v < St.length) (he : gS z St v = fo (gS z St i) j) : ExS z fo M St (NX ++ [v]) i (j + 1) := by
  have hl : (NX ++ [v]).length = NX.length + 1 := by simp
  have hd := div_at (i := i) hj
  rw [← h.len] at hd
  refine ⟨h.s0, h.nd, h.rch, by rw [hl, h.len]; omega, hj, h.il, fun q hq => ?_⟩
  by_cases h2 : q < NX.length
  · rw [gN_left h2]; exact h.nxt q h2
  · obtain rfl : q = NX.length := by omega
    rw [gN_last, hd.1, hd.2]; exact ⟨hv, he⟩
/-- A state that is met here first. -/
theorem ExS.add (h : ExS z fo M St NX i j) (hi : i < St.length) (hj : j < M) {x : S} (hne : ∀ a, a < St.length → gS z St a ≠ x) (he : x = fo (gS z St i) j) : ExS z fo M (St ++ [x]) NX i j := by
  have hls : (St ++ [x]).length = St.length + 1 := by simp
  have gl : ∀ a, a < St.length → gS z (St ++ [x]) a = gS z St a := fun a ha => gS_left ha
  have hrow : ∀ q, q < NX.length → q / M < St.length := fun q hq => by
    have : q / M ≤ i := by
      have h1 : q ≤ i * M + j := by have := h.len; omega
      have h2 := Nat.div_le_div_right (c := M) h1
      rw [(div_at (i := i) hj).1] at h2
      exact h2
    omega
  refine ⟨⟨by omega, by rw [gl 0 h.s0.1]; exact h.s0.2⟩, fun a ha b hb e => ?_, fun a ha => ?_, h.len, h.jl, by have := h.il; omega, fun q hq => ?_⟩
  · by_cases h1 : a < St.length
    · by_cases h2 : b < St.length
      · rw [gl a h1, gl b h2] at e; exact h.nd a h1 b h2 e
      · obtain rfl : b = St.length := by omega
        rw [gl a h1, gS_last] at e; exact absurd e (hne a h1)
    · obtain rfl : a = St.length := by omega
      by_cases h2 : b < St.length
      · rw [gl b h2, gS_last] at e; exact absurd e.symm (hne b h2)
      · omega
  · by_cases h1 : a < St.length
    · rw [gl a h1]; exact h.rch a h1
    · obtain rfl : a = St.length := by omega
      obtain ⟨u, h2, h3⟩ := h.rch i hi
      refine ⟨u ++ [j], fun c hc => ?_, ?_⟩
      · rcases List.mem_append.1 hc with hc | hc
        · exact h2 c hc
        · rw [List.mem_singleton.1 hc]; exact hj
      · rw [List.foldl_append, h3, gS_last, he]; rfl
  · obtain ⟨k1, k2⟩ := h.nxt q hq
    exact ⟨by omega, by rw [gl _ k1, gl _ (hrow q hq)]; exact k2⟩
theorem ExS.new (h : ExS z fo M St NX i j) (hi : i < St.length) (hj : j < M) {x : S} (hne : ∀ a, a < St.length → gS z St a ≠ x) (he : x = fo (gS z St i) j) : ExS z fo M (St ++ [x]) (NX ++ [St.length]) i (j + 1) :=
  (h.add hi hj hne he).old hj (by simp) (by rw [gS_last, gS_left hi, he])
theorem ExS.row (h : ExS z fo M St NX i j) (hi : i < St.length) (hj : ¬ j < M) : ExS z fo M St NX (i + 1) 0 := by
  have : j = M := by have := h.jl; omega
  refine ⟨h.s0, h.nd, h.rch, by rw [h.len, Nat.succ_mul, this]; omega, by omega, hi, h.nxt⟩
end
/-- All that is known when no state is left. -/
structure ExD {S : Type} (z : S) (fo : S → Nat → S) (M : Nat) (St : List S) (NX : List Nat) : Prop where
  s0 : 0 < St.length ∧ gS z St 0 = z
  nd : ∀ a, a < St.length → ∀ b, b < St.length → gS z St a = gS z St b → a = b
  rch : ∀ a, a < St.length → ∃ u : List Nat, (∀ c ∈ u, c < M) ∧ u.foldl fo z = gS z St a
  len : NX.length = St.length * M
  nxt : ∀ s, s < St.length → ∀ c, c < M → gN NX (s * M + c) < St.length ∧ gS z St (gN NX (s * M + c)) = fo (gS z St s) c
/-- More than 256 states. -/
def ExMany {S : Type} (z : S) (fo : S → Nat → S) (M : Nat) : Prop := ∃ St : List S, St.length = 257 ∧ (∀ a, a < St.length → ∀ b, b < St.length → gS z St a = gS z St b → a = b) ∧ ∀ a, a < St.length → ∃ u : List Nat, (∀ c ∈ u, c < M) ∧ u.foldl fo z = gS z St a
section
variable {S : Type} {z : S} {fo : S → Nat → S} {M : Nat} {St : List S} {NX : List Nat} {i j : Nat}
theorem ExS.done (h : ExS z fo M St NX i 0) (hi : ¬ i < St.length) : ExD z fo M St NX := by
  have e : i = St.length := by have := h.il; omega
  refine ⟨h.s0, h.nd, h.rch, by rw [h.len, e]; omega, fun s hs c hc => ?_⟩
  have hq : s * M + c < NX.length := by
    rw [h.len, e]
    have := at_lt hs hc
    omega
  have := h.nxt _ hq
  rw [(div_at (i := s) hc).1, (div_at (i := s) hc).2] at this
  exact this
theorem ExS.many (h : ExS z fo M St NX i j) (hl : St.length = 257) : ExMany z fo M := ⟨St, hl, h.nd, h.rch⟩
end
section
variable {S : Type} {z : S} {fo : S → Nat → S} {M : Nat} {St : List S} {NX OU : List Nat} {bs : By}
/-- Where a text leads. -/
theorem ExD.run (h : ExD z fo M St NX) (hM : 0 < M) (ho : OU.length = St.length) (hb : ∀ b, b < 256 → (bs.getD b 0).toNat < M) : ∀ {t : List Nat} {s : Nat}, s < St.length → Txt t → (dfA bs NX OU).run s t < St.length ∧ gS z St ((dfA bs NX OU).run s t) = t.foldl (fun x b => fo x (bs.getD b 0).toNat) (gS z St s)
  | [], s, hs, _ => ⟨hs, rfl⟩
  | b :: t, s, hs, ht => by
    have hW : NX.length / OU.length = M := by rw [h.len, ho, Nat.mul_comm]; exact Nat.mul_div_cancel _ h.s0.1
    obtain ⟨k1, k2⟩ := h.nxt s hs _ (hb b ht.tail.1)
    have e : (dfA bs NX OU).step s b = gN NX (s * M + (bs.getD b 0).toNat) := by
      show gN NX (s * (NX.length / OU.length) + (bs.getD b 0).toNat) = _
      rw [hW]
    have := ExD.run h hM ho hb (t := t) (s := (dfA bs NX OU).step s b) (by rw [e]; exact k1) ht.tail.2
    rw [DF.run_cons]
    refine ⟨this.1, ?_⟩
    rw [this.2, e, k2]
    rfl
theorem ExD.may (h : ExD z fo M St NX) (hM : 0 < M) (hM2 : M ≤ 256) (ho : OU.length = St.length) (hn : St.length ≤ 65536) (hbl : bs.length = 256) (hb : ∀ b, b < 256 → (bs.getD b 0).toNat < M) (hlb : ∀ x ∈ OU, x ≤ 65535) : MayA bs NX OU := by
  have hW : NX.length / OU.length = M := by rw [h.len, ho, Nat.mul_comm]; exact Nat.mul_div_cancel _ h.s0.1
  refine ⟨hbl, by rw [ho]; exact h.s0.1, by rw [ho]; exact hn, by rw [hW, ho, h.len], by rw [hW]; exact hb, by rw [hW]; exact hM2, fun x hx => ?_, hlb⟩
  obtain ⟨q, hq, rfl⟩ := List.getElem_of_mem hx
  have h0 : q / M < St.length := by
    have := h.len
    exact Nat.div_lt_of_lt_mul (by rw [Nat.mul_comm]; omega)
  have := (h.nxt (q / M) h0 (q % M) (Nat.mod_lt _ hM)).1
  rw [Nat.mul_comm, Nat.div_add_mod, gN_lt hq] at this
  rw [ho]
  exact this
end
end Go.Proofs.YtdgoilkgplnhfaaGreat
/-
  Sets of places as states: what they tell of texts. Of no program: no condition but those named.
-/
namespace Go.Proofs.YtdgoilkgplnhfaaGreat

theorem afF_congr {L : List Pc} {f g : Nat → Bool} {b b' : Int} : ∀ (n : Nat), (∀ j, j < n → f j = g j) → (∀ j, j < n → tkB (L.getD j zPc) b = tkB (L.getD j zPc) b') → afF L f b n = afF L g b' n
  | 0, _, _ => rfl
  | n + 1, h, k => by
    have ih := afF_congr n (fun j hj => h j (by omega)) (fun j hj => k j (by omega))
    have e1 := h n (by omega)
    have e2 := k n (by omega)
    unfold zPc at e2
    unfold afF
    rw [ih, e1, e2]
/-- A set of places as a list. -/
def plL (f : Nat → Bool) : List Bool := (List.range 65).map f
def plF (B : List Bool) : Nat → Bool := fun i => B.getD i false
theorem plL_len (f : Nat → Bool) : (plL f).length = 65 := by simp [plL]
theorem plF_plL (f : Nat → Bool) {i : Nat} (h : i < 65) : plF (plL f) i = f i := by
  unfold plF plL
  simp [List.getD_eq_getElem?_getD, h]
theorem plL_plF {B : List Bool} (h : B.length = 65) : plL (plF B) = B := by
  apply List.ext_getElem
  · rw [plL_len, h]
  · intro i h1 h2
    unfold plL plF
    simp [List.getD_eq_getElem?_getD, h2]
theorem mk_plF (f : Nat → Bool) : mk (plF (plL f)) = mk f := by
  unfold mk
  congr 1
theorem mk_inj {A B : List Bool} (ha : A.length = 65) (hb : B.length = 65) (h : mk (plF A) = mk (plF B)) : A = B := by
  apply List.ext_getElem
  · omega
  · intro i h1 h2
    have e : (mk (plF A))[i]? = (mk (plF B))[i]? := by rw [h]
    rw [mk_get _ i (by omega), mk_get _ i (by omega)] at e
    have e2 : plF A i = plF B i := by injection e with e; injection e
    unfold plF at e2
    simpa [List.getD_eq_getElem?_getD, h1, h2] using e2
/-- Where a set leads by a byte. -/
def plS (L : List Pc) (B : List Bool) (b : Nat) : List Bool := plL (stF L (plF B) (UInt8.ofNat b))
theorem stF_congr {L : List Pc} {f g : Nat → Bool} {b b' : UInt8} (h : ∀ j, j < L.length → f j = g j) (k : ∀ j, j < L.length → tkB (L.getD j zPc) ((b.toNat : Nat) : Int) = tkB (L.getD j zPc) ((b'.toNat : Nat) : Int)) : stF L f b = stF L g b' := by
  unfold stF
  rw [afF_congr L.length h k]
theorem plS_plL {L : List Pc} (hl : L.length ≤ 64) (f : Nat → Bool) (b : Nat) : plS L (plL f) b = plL (stF L f (UInt8.ofNat b)) := by
  unfold plS
  rw [stF_congr (fun j hj => plF_plL f (by omega)) (fun _ _ => rfl)]
/-- Of a piece alone and one byte: does it take it? -/
theorem one_takes (p : Pc) (b : UInt8) : mtF [p] [b] 1 = tkB p ((b.toNat : Nat) : Int) := by
  have e : ([p] : List Pc).getD 0 ⟨0, 0, false, []⟩ = p := rfl
  simp only [mtF, stF, List.foldl_cons, List.foldl_nil, List.length_cons, List.length_nil, Nat.zero_add, clF, afF, e]
  cases hm : manyK p.kind <;> cases ht : tkB p ((b.toNat : Nat) : Int) <;> simp [upd]
/-- What is come to by a text. -/
theorem mtF_pl {L : List Pc} (hl : L.length ≤ 64) : ∀ (t : By) (f : Nat → Bool), (ntL t).foldl (plS L) (plL f) = plL (t.foldl (stF L) f)
  | [], f => rfl
  | c :: t, f => by
    show (ntL t).foldl (plS L) (plS L (plL f) c.toNat) = _
    rw [plS_plL hl]
    have : UInt8.ofNat c.toNat = c := by simp
    rw [this]
    exact mtF_pl hl t _
end Go.Proofs.YtdgoilkgplnhfaaGreat
/-
  many, closed, beginning of sets of places by their contracts. Condition: there are at most 64 pieces.
-/
namespace Go.Proofs.YtdgoilkgplnhfaaGreat
open Go.RowKit Go.Lib

theorem Tryz.info80 : (Tryz.prog.info? 80).map (fun i => (i.zero, i.size)) = some (some (.agg (mk fun _ => false)), 65) := by kernel_rfl
theorem many6_any (k b : Int) (no : Bool) (so : Option Addr) (n c : Nat) (w : World) : Calls Tryz.prog 86 #[.agg #[.int .i64 k, .int .i64 b, .bool no, .slice so n c]] w fun e w' => e = .returned (.bool (manyK k)) ∧ Below w.heap.size w w' := by
  by_cases h4 : k = 4
  · have HE : Hid (manyK k = true) := by simp [Hid, manyK, h4]
    go_enter Tryz.func86, Tryz.ntmps86
    go_wp2
    go_ret
    exact ⟨by rw [HE.out]; rfl, al (Below.refl _ _) _⟩
  · by_cases h5 : k = 5
    · have HE : Hid (manyK k = true) := by simp [Hid, manyK, h5]
      go_enter Tryz.func86, Tryz.ntmps86
      go_wp2
      go_ret
      exact ⟨by rw [HE.out]; rfl, al (Below.refl _ _) _⟩
    · go_enter Tryz.func86, Tryz.ntmps86
      go_wp2
      go_ret
      refine ⟨?_, al (Below.refl _ _) _⟩
      show Ending.returned (Value.bool (k == 4 || k == 5)) = _
      simp [manyK, h4, h5]
set_option maxRecDepth 100000 in
set_option maxHeartbeats 4000000 in
theorem closed6_any (ao : Option Addr) (cap : Nat) (D : List PD) (f : Nat → Bool) (w : World) (hl : D.length ≤ 64) (hat : PcAt w ao D) :
    Calls Tryz.prog 85 #[.slice ao D.length cap, .agg (mk f)] w fun e w' => e = .returned (.agg (mk (clF (D.map PD.p) f D.length))) ∧ Below w.heap.size w w' := by
  obtain ⟨hzv, hsz⟩ := zero_of_info Tryz.info80
  have hs := mk_size f
  have HAT := hide hat
  have HXS : Hid (Below w.heap.size w ((w.alloc (.cells (mk f) 80)).alloc (.cells (mk fun _ => false) 80))) := al (al (Below.refl _ _) _) _
  have B0 : Hid (((w.alloc (.cells (mk f) 80)).alloc (.cells (mk fun _ => false) 80)).heap[w.heap.size]? = some (.cells (mk f) 80 (0, 0))) := ((al (Below.refl _ _) (.cells (mk fun _ => false) 80) : Below (w.alloc (.cells (mk f) 80)).heap.size (w.alloc (.cells (mk f) 80)) _).block _ (by simp)).trans (heap_alloc_new _ _)
  have B1 : Hid (((w.alloc (.cells (mk f) 80)).alloc (.cells (mk fun _ => false) 80)).heap[w.heap.size + 1]? = some (.cells (mk fun _ => false) 80 (0, 0))) := by
    have := heap_alloc_new (w.alloc (.cells (mk f) 80)) (.cells (mk fun _ => false) 80)
    rwa [show (w.alloc (.cells (mk f) 80)).heap.size = w.heap.size + 1 by simp] at this
  have HZS := hide (mk_size fun _ => false)
  obtain ⟨a, ha⟩ : ∃ a, Hid (a = mk f) := ⟨_, rfl⟩
  obtain ⟨z, hz⟩ : ∃ z, Hid (z = mk fun _ => false) := ⟨_, rfl⟩
  rw [← ha.out] at hs HXS B0 B1 ⊢
  rw [← hz.out] at hzv HXS B0 B1 HZS
  clear hat
  go_enter Tryz.func85, Tryz.ntmps85
  go_wp2
  go_loopw [9] (fun x wr => ∃ k : Nat, k ≤ D.length ∧ x = .int .i64 k ∧ Hid (wr.heap[w.heap.size]? = some (.cells (mk (clF (D.map PD.p) f k)) 80 (0, 0))) ∧ Hid (wr.heap[w.heap.size + 1]? = some (.cells z 80 (0, 0))) ∧ Hid (Below w.heap.size w wr)) (fun x _ => D.length - (RowKit.intOf x).toNat)
  case atStart => exact ⟨0, Nat.zero_le _, rfl, by have h0 : a = mk (clF (D.map PD.p) f 0) := ha.out; rw [← h0]; exact B0, B1, HXS⟩
  case round =>
    obtain ⟨k, hk, rfl, BA, BZ, X⟩ := hrel
    rename World => wr
    by_cases hlt : k < D.length
    · have hlt' : (k : Int) < (D.length : Int) := by omega
      have h65 : (k : Int) < 65 := by omega
      have h66 : (k : Int) + 1 < 65 := by omega
      rcases HAT.out with h | ⟨b, off, rfl, hb, hc⟩
      · rw [h] at hlt; simp at hlt
      obtain ⟨p0, p1, p2, p3, _⟩ := hc k hlt
      have hbw : b < wr.heap.size := Nat.lt_of_lt_of_le hb X.out.size
      have r0 := (X.out.cell (p := ⟨b, off + k * 4, none⟩) hb).trans p0
      have r1 := (X.out.cell (p := ⟨b, off + k * 4 + 1, none⟩) hb).trans p1
      have r2 := (X.out.cell (p := ⟨b, off + k * 4 + 2, none⟩) hb).trans p2
      have r3 := (X.out.cell (p := ⟨b, off + k * 4 + 3, none⟩) hb).trans p3
      have HY := hide (fun h1 h2 => clF_yes (D := D) (f := f) (k := k) hlt h1 h2)
      have HN := hide (fun h1 => clF_no (D := D) (f := f) (k := k) hlt h1)
      have HMN := hide (fun w => many6_any D[k].p.kind D[k].p.b D[k].p.no D[k].so D[k].p.set.length D[k].sc w)
      generalize D[k].p.kind = kd at *
      generalize D[k].p.b = kb at *
      generalize D[k].p.no = kn at *
      generalize D[k].p.set.length = kl at *
      generalize D[k].so = ks at *
      generalize D[k].sc = kc at *
      have X4 := hide (al (Below.refl wr.heap.size wr) (.cells #[.int .i64 kd, .int .i64 kb, .bool kn, .slice ks kl kc] 96))
      have BA4 := hide ((X4.out.block _ (lt_of_block BA.out)).trans BA.out)
      have c0 : (wr.alloc (.cells #[.int .i64 kd, .int .i64 kb, .bool kn, .slice ks kl kc] 96)).cell? ⟨w.heap.size, k, none⟩ = some (.bool (clF (D.map PD.p) f k k)) := by rw [cell_of_row _ _ _ _ _ _ BA4.out]; exact mk_get _ _ (by omega)
      clear hc p0 p1 p2 p3
      cases hf : clF (D.map PD.p) f k k with
      | false =>
        have HE := hide (HN.out (by rw [hf, Bool.false_and]))
        rw [hf] at c0
        go_wp2
        go_roundw
        case rel => exact ⟨k + 1, by omega, by go_num, by unfold Hid; rw [HE.out]; exact BA4.out, (X4.out.block _ (lt_of_block BZ.out)).trans BZ.out, bt X.out X4.out (Nat.le_refl _)⟩
        case measure => simp [RowKit.intOf]; omega
      | true =>
        rw [hf] at c0
        cases hm : manyK kd with
        | false =>
          have HE := hide (HN.out (by rw [hm, Bool.and_false]))
          rw [hm] at HMN
          go_wp2_with (go_at_call 86; refine (HMN.out _).mono ?_; rintro e w5 ⟨rfl, x5⟩; have X5 := hide (bt X4.out x5 (Nat.le_refl _)); clear x5)
          go_roundw
          case rel => exact ⟨k + 1, by omega, by go_num, by unfold Hid; rw [HE.out]; exact (X5.out.block _ (lt_of_block BA.out)).trans BA.out, (X5.out.block _ (lt_of_block BZ.out)).trans BZ.out, bt X.out X5.out (Nat.le_refl _)⟩
          case measure => simp [RowKit.intOf]; omega
        | true =>
          have HE := hide (HY.out hf hm)
          rw [hm] at HMN
          go_wp2_with (go_at_call 86; refine (HMN.out _).mono ?_; rintro e w5 ⟨rfl, x5⟩; have X5 := hide (bt X4.out x5 (Nat.le_refl _)); have BA5 := hide ((X5.out.block _ (lt_of_block BA.out)).trans BA.out); have d1 : w5.cell? ⟨w.heap.size, k + 1, none⟩ = some (.bool (clF (D.map PD.p) f k (k + 1))) := (by rw [cell_of_row _ _ _ _ _ _ BA5.out]; exact mk_get _ _ (by omega)); have g1 := frozen_of_row _ _ (k + 1) _ _ BA5.out; clear x5)
          go_roundw
          case rel =>
            have hk6 : Kept (fun i => i = w.heap.size) w5 (w5.setCell ⟨w.heap.size, k + 1, none⟩ (.bool true)) := Kept.setCell (F := fun i => i = w.heap.size) (p := ⟨w.heap.size, k + 1, none⟩) (Kept.refl _ _) rfl _
            have B5Z := (X5.out.block _ (lt_of_block BZ.out)).trans BZ.out
            refine ⟨k + 1, by omega, by go_num, ?_, (hk6.block _ (lt_of_block B5Z) (by omega)).trans B5Z, ?_⟩
            · unfold Hid
              rw [HE.out, ← mk_set]
              exact block_setCell BA5.out (k + 1) _
            · exact (bt X.out X5.out (Nat.le_refl _)).trans (hk6.below (Nat.le_trans X.out.size X5.out.size) (fun i hi => by omega))
          case measure => simp [RowKit.intOf]; omega
    · have hnl : ¬ (k : Int) < (D.length : Int) := by omega
      have hkl : k = D.length := by omega
      subst hkl
      have HI : Hid ((Tryz.prog.info? 80).map (·.size) = some (mk (clF (D.map PD.p) f D.length)).size) := by unfold Hid; rw [hsz, mk_size]
      have HZ2 : Hid (z.size = (mk (clF (D.map PD.p) f D.length)).size) := by unfold Hid; rw [HZS.out, mk_size]
      have HAL := hide (mk_all (clF (D.map PD.p) f D.length))
      have HBN := hide (setRow_heap wr (w.heap.size + 1) z (mk (clF (D.map PD.p) f D.length)) 80 (0, 0) BZ.out)
      have HXN := hide (below_setRow X.out (Nat.le_succ _) (mk (clF (D.map PD.p) f D.length)))
      clear hzv hsz hs
      obtain ⟨m, hm⟩ : ∃ m, Hid (m = mk (clF (D.map PD.p) f D.length)) := ⟨_, rfl⟩
      rw [← hm.out] at HI HZ2 HAL HBN HXN BA
      go_wp2_with (first
        | (refine wpList_load_row rfl 80 (.tmp 3) rfl w.heap.size rfl 80 m (0, 0) _ BA.out Tryz.underlying80 rfl HI.out ?_)
        | (refine wpList_store_row rfl 80 (.tmp 4) (.tmp 27) rfl (w.heap.size + 1) m rfl rfl 80 z BZ.out HI.out HZ2.out HAL.out ?_))
      refine bodyPost_ret (v := .agg m) (results_cell_row rfl _ _ (w.heap.size + 1) 80 m (0, 0) _ rfl HBN.out Tryz.underlying80 rfl HI.out) rfl ?_
      exact ⟨by rw [hm.out], HXN.out⟩


end Go.Proofs.YtdgoilkgplnhfaaGreat
/-
  Keys that are structs of one array of bools: they are read as keys, and tell just their elements. Of the program its types alone: no condition.
-/
namespace Go.Proofs.YtdgoilkgplnhfaaGreat
open Go.RowKit Go.Lib Go.Maps

theorem cells73 : Tryz.prog.cellsOf 73 = 64 ∧ Tryz.prog.cellsOf 71 = 64 ∧ Tryz.prog.cellsOf 4 = 1 := ⟨by kernel_rfl, by kernel_rfl, by kernel_rfl⟩
theorem ktype73 : Tryz.prog.keyType 73 = true := by kernel_rfl
theorem bool_key (b : Bool) (d : Nat) : Tryz.prog.keyLits (d + 1) 4 [.bool b] = some [.bool b] := by
  unfold Program.keyLits
  simp only [Tryz.underlying4]
theorem keyOf_taking (B : List Bool) (hl : B.length = 64) : ∃ l, keyOf Tryz.prog 73 (.agg (B.map fun (b : Bool) => Value.bool b).toArray) = some l := by
  obtain ⟨c1, c2, c3⟩ := cells73
  have hlits : ∃ ls, Tryz.prog.keyLits (Tryz.prog.types.size + 1) 73 (B.map fun (b : Bool) => Value.bool b) = some ls := by
    rw [size_types]
    unfold Program.keyLits
    simp only [Tryz.underlying73]
    have hlen : (B.map fun (b : Bool) => Value.bool b).length = 64 := by rw [List.length_map, hl]
    rw [if_pos ⟨by rw [hlen, c1], by first | (simp; done) | kernel_rfl⟩]
    have h71 : ∃ ls, Tryz.prog.keyLits 253 71 (B.map fun (b : Bool) => Value.bool b) = some ls := by
      unfold Program.keyLits
      simp only [Tryz.underlying71]
      rw [if_pos (by rw [hlen, c2]), mapM_some _ (fun i => [Lit.bool (B.getD i false)]) (List.range 64) (fun i hi => ?_)]
      · exact ⟨_, rfl⟩
      · have hi' : i < B.length := by rw [hl]; exact List.mem_range.1 hi
        have e : ((B.map fun (b : Bool) => Value.bool b).drop (i * Tryz.prog.cellsOf 4)).take (Tryz.prog.cellsOf 4) = [.bool (B.getD i false)] := by
          rw [c3, Nat.mul_one, List.drop_eq_getElem_cons (by rw [List.length_map]; exact hi')]
          simp [List.getD_eq_getElem?_getD, hi']
        rw [e]
        exact bool_key _ 251
    obtain ⟨ls, hls⟩ := h71
    have e : ((B.map fun (b : Bool) => Value.bool b).drop 0).take (Tryz.prog.cellsOf 71) = B.map fun (b : Bool) => Value.bool b := by
      rw [List.drop_zero, c2, List.take_of_length_le (by rw [hlen]; exact Nat.le_refl _)]
    simp only [List.mapM_cons, List.mapM_nil, e, hls]
    exact ⟨_, rfl⟩
  obtain ⟨ls, hls⟩ := hlits
  unfold keyOf
  simp only [Tryz.underlying73]
  rw [if_pos (by
    rw [ktype73]
    simp [Value.formed, Tryz.underlying73, c1, hl])]
  have e : (Value.agg (B.map fun (b : Bool) => Value.bool b).toArray).cells.toList = B.map fun (b : Bool) => Value.bool b := by simp [Value.cells]
  rw [e, hls]
  exact ⟨_, rfl⟩
theorem keyed73 : Keyed Tryz.prog 73 := Keyed.of_law (deep_law_laid (m := 254) (by kernel_rfl) (by decide) (by rw [size_types]; decide) (by kernel_rfl) (by simp [Tryz.underlying73]))
end Go.Proofs.YtdgoilkgplnhfaaGreat
/-
  after and beginning of sets of places by their contracts. Condition: there are at most 64 pieces.
-/
namespace Go.Proofs.YtdgoilkgplnhfaaGreat
open Go.RowKit Go.Lib

/-- Marks that a byte leads to, up to the k-th piece; g tells which pieces take it. -/
def agF (L : List Pc) (f g : Nat → Bool) : Nat → (Nat → Bool)
  | 0 => fun _ => false
  | k + 1 => if f k && g k then (if manyK (L.getD k ⟨0, 0, false, []⟩).kind then upd (agF L f g k) k else upd (agF L f g k) (k + 1)) else agF L f g k
theorem agF_no {D : List PD} {f g : Nat → Bool} {k : Nat} (h1 : (f k && g k) = false) : agF (D.map PD.p) f g (k + 1) = agF (D.map PD.p) f g k := by
  conv => lhs; unfold agF
  rw [h1]
  rfl
theorem agF_many {D : List PD} {f g : Nat → Bool} {k : Nat} (h : k < D.length) (h1 : f k = true) (h2 : g k = true) (h3 : manyK D[k].p.kind = true) : agF (D.map PD.p) f g (k + 1) = upd (agF (D.map PD.p) f g k) k := by
  conv => lhs; unfold agF
  rw [h1, h2, getD_map D k h, h3]
  rfl
theorem agF_one {D : List PD} {f g : Nat → Bool} {k : Nat} (h : k < D.length) (h1 : f k = true) (h2 : g k = true) (h3 : manyK D[k].p.kind = false) : agF (D.map PD.p) f g (k + 1) = upd (agF (D.map PD.p) f g k) (k + 1) := by
  conv => lhs; unfold agF
  rw [h1, h2, getD_map D k h, h3]
  rfl
/-- A taking. -/
def mk64 (g : Nat → Bool) : Array Value := ((List.range 64).map fun i => Value.bool (g i)).toArray
theorem mk64_size (g : Nat → Bool) : (mk64 g).size = 64 := by simp [mk64]
theorem mk64_get (g : Nat → Bool) (i : Nat) (h : i < 64) : (mk64 g)[i]? = some (.bool (g i)) := by
  unfold mk64
  simp [h]
theorem mk64_all (g : Nat → Bool) : (mk64 g).all (·.oneCell') = true := by
  unfold mk64
  simp [Value.oneCell']
structure AgS (w : World) (D : List PD) (f g : Nat → Bool) (z : Array Value) (k : Nat) (wr : World) : Prop where
  at' : wr.heap[w.heap.size]? = some (.cells (mk f) 80 (0, 0))
  tk : wr.heap[w.heap.size + 1]? = some (.cells (mk64 g) 73 (0, 0))
  res : wr.heap[w.heap.size + 2]? = some (.cells z 80 (0, 0))
  nx : wr.heap[w.heap.size + 3]? = some (.cells (mk (agF (D.map PD.p) f g k)) 80 (0, 0))
  bel : Below w.heap.size w wr
theorem AgS.next {w : World} {D : List PD} {f g : Nat → Bool} {z : Array Value} {k : Nat} {wr w' : World} (h : AgS w D f g z k wr) (x : Below wr.heap.size wr w') (he : agF (D.map PD.p) f g (k + 1) = agF (D.map PD.p) f g k) : AgS w D f g z (k + 1) w' :=
  ⟨(x.block _ (lt_of_block h.at')).trans h.at', (x.block _ (lt_of_block h.tk)).trans h.tk, (x.block _ (lt_of_block h.res)).trans h.res, by rw [he]; exact (x.block _ (lt_of_block h.nx)).trans h.nx, bt h.bel x (Nat.le_refl _)⟩
theorem AgS.put {w : World} {D : List PD} {f g : Nat → Bool} {z : Array Value} {k : Nat} {wr w' : World} (h : AgS w D f g z k wr) (x : Below wr.heap.size wr w') (j : Nat) (he : agF (D.map PD.p) f g (k + 1) = upd (agF (D.map PD.p) f g k) j) : AgS w D f g z (k + 1) (w'.setCell ⟨w.heap.size + 3, j, none⟩ (.bool true)) := by
  have hk6 : Kept (fun i => i = w.heap.size + 3) w' (w'.setCell ⟨w.heap.size + 3, j, none⟩ (.bool true)) := Kept.setCell (F := fun i => i = w.heap.size + 3) (p := ⟨w.heap.size + 3, j, none⟩) (Kept.refl _ _) rfl _
  have b1 := (x.block _ (lt_of_block h.at')).trans h.at'
  have b4 := (x.block _ (lt_of_block h.tk)).trans h.tk
  have b2 := (x.block _ (lt_of_block h.res)).trans h.res
  have b3 := (x.block _ (lt_of_block h.nx)).trans h.nx
  refine ⟨(hk6.block _ (lt_of_block b1) (by omega)).trans b1, (hk6.block _ (lt_of_block b4) (by omega)).trans b4, (hk6.block _ (lt_of_block b2) (by omega)).trans b2, ?_, (bt h.bel x (Nat.le_refl _)).trans (hk6.below (Nat.le_trans h.bel.size x.size) (fun i hi => by omega))⟩
  rw [he, ← mk_set]
  exact block_setCell b3 j _
theorem AgS.cell {w : World} {D : List PD} {f g : Nat → Bool} {z : Array Value} {k : Nat} {wr w' : World} (h : AgS w D f g z k wr) (x : Below wr.heap.size wr w') (j : Nat) (hj : j < 65) : w'.cell? ⟨w.heap.size + 3, j, none⟩ = some (.bool (agF (D.map PD.p) f g k j)) ∧ w'.frozen? ⟨w.heap.size + 3, j, none⟩ = false := by
  have b3 := (x.block _ (lt_of_block h.nx)).trans h.nx
  exact ⟨by rw [cell_of_row _ _ _ _ _ _ b3]; exact mk_get _ _ hj, frozen_of_row _ _ _ _ _ b3⟩
theorem agS_start (w : World) (D : List PD) (f g : Nat → Bool) (z : Array Value) (hz : z = mk fun _ => false) : AgS w D f g z 0 ((((w.alloc (.cells (mk f) 80)).alloc (.cells (mk64 g) 73)).alloc (.cells z 80)).alloc (.cells z 80)) := by
  have e1 : (w.alloc (.cells (mk f) 80)).heap.size = w.heap.size + 1 := by simp
  have x1 : Below w.heap.size w (w.alloc (.cells (mk f) 80)) := al (Below.refl _ _) _
  have b1 := heap_alloc_new w (.cells (mk f) 80)
  generalize w.alloc (.cells (mk f) 80) = w1 at *
  have e2 : (w1.alloc (.cells (mk64 g) 73)).heap.size = w1.heap.size + 1 := by simp
  have x2 : Below w1.heap.size w1 (w1.alloc (.cells (mk64 g) 73)) := al (Below.refl _ _) _
  have b2 := heap_alloc_new w1 (.cells (mk64 g) 73)
  generalize w1.alloc (.cells (mk64 g) 73) = w2 at *
  have e3 : (w2.alloc (.cells z 80)).heap.size = w2.heap.size + 1 := by simp
  have x3 : Below w2.heap.size w2 (w2.alloc (.cells z 80)) := al (Below.refl _ _) _
  have b3 := heap_alloc_new w2 (.cells z 80)
  generalize w2.alloc (.cells z 80) = w3 at *
  have x4 : Below w3.heap.size w3 (w3.alloc (.cells z 80)) := al (Below.refl _ _) _
  have b4 := heap_alloc_new w3 (.cells z 80)
  rw [e1] at b2
  rw [e2, e1] at b3
  rw [e3, e2, e1] at b4
  have y3 := bt x3 x4 (Nat.le_refl _)
  have y2 := bt x2 y3 (Nat.le_refl _)
  exact ⟨(y2.block _ (by omega)).trans b1, (y3.block _ (by omega)).trans b2, (x4.block _ (by omega)).trans b3, by rw [hz] at b4 ⊢; exact b4, bt x1 y2 (Nat.le_refl _)⟩
set_option maxRecDepth 100000 in
set_option maxHeartbeats 8000000 in
theorem after6_any (ao : Option Addr) (cap : Nat) (D : List PD) (f g : Nat → Bool) (w : World) (hl : D.length ≤ 64) (hat : PcAt w ao D) :
    Calls Tryz.prog 47 #[.slice ao D.length cap, .agg (mk f), .agg (mk64 g)] w fun e w' => e = .returned (.agg (mk (clF (D.map PD.p) (agF (D.map PD.p) f g D.length) D.length))) ∧ Below w.heap.size w w' := by
  obtain ⟨hzv, hsz⟩ := zero_of_info Tryz.info80
  have hs := mk_size f
  have hs2 := mk64_size g
  have HAT := hide hat
  have HZS := hide (mk_size fun _ => false)
  obtain ⟨z, hz⟩ : ∃ z, Hid (z = mk fun _ => false) := ⟨_, rfl⟩
  have S0 := hide (agS_start w D f g z hz.out)
  obtain ⟨a, ha⟩ : ∃ a, Hid (a = mk f) := ⟨_, rfl⟩
  obtain ⟨a2, ha2⟩ : ∃ a2, Hid (a2 = mk64 g) := ⟨_, rfl⟩
  rw [← ha.out] at hs S0 ⊢
  rw [← ha2.out] at hs2 S0 ⊢
  rw [← hz.out] at hzv HZS
  clear hat
  go_enter Tryz.func47, Tryz.ntmps47
  go_wp2
  go_loopw [12] (fun x wr => ∃ k : Nat, k ≤ D.length ∧ x = .int .i64 k ∧ Hid (AgS w D f g z k wr)) (fun x _ => D.length - (RowKit.intOf x).toNat)
  case atStart => exact ⟨0, Nat.zero_le _, rfl, S0⟩
  case round =>
    obtain ⟨k, hk, rfl, S⟩ := hrel
    rename World => wr
    by_cases hlt : k < D.length
    · have hlt' : (k : Int) < (D.length : Int) := by omega
      have h64 : (k : Int) < 64 := by omega
      have h65 : (k : Int) < 65 := by omega
      have h66 : (k : Int) + 1 < 65 := by omega
      have w66 : IntKind.i64.wrap ((k : Int) + 1) = (k : Int) + 1 := by simp [IntKind.wrap, IntKind.bits, IntKind.signed]; omega
      have X := hide S.out.bel
      rcases HAT.out with h | ⟨pb, off, rfl, hb, hc⟩
      · rw [h] at hlt; simp at hlt
      obtain ⟨p0, p1, p2, p3, p4⟩ := hc k hlt
      have hbw : pb < wr.heap.size := Nat.lt_of_lt_of_le hb X.out.size
      have r0 := (X.out.cell (p := ⟨pb, off + k * 4, none⟩) hb).trans p0
      have r1 := (X.out.cell (p := ⟨pb, off + k * 4 + 1, none⟩) hb).trans p1
      have r2 := (X.out.cell (p := ⟨pb, off + k * 4 + 2, none⟩) hb).trans p2
      have r3 := (X.out.cell (p := ⟨pb, off + k * 4 + 3, none⟩) hb).trans p3
      have HNO := hide (fun h1 => agF_no (D := D) (f := f) (g := g) (k := k) h1)
      have HMA := hide (fun h1 h2 h3 => agF_many (D := D) (f := f) (g := g) (k := k) hlt h1 h2 h3)
      have HON := hide (fun h1 h2 h3 => agF_one (D := D) (f := f) (g := g) (k := k) hlt h1 h2 h3)
      generalize D[k] = d at *
      obtain ⟨⟨kd, kb, kn, kS⟩, ks, kc⟩ := d
      simp only at r0 r1 r2 r3 HNO HMA HON
      clear hc p0 p1 p2 p3 p4
      have HMN := hide (fun w => many6_any kd kb kn ks kS.length kc w)
      have X4 := hide (al (Below.refl wr.heap.size wr) (.cells #[.int .i64 kd, .int .i64 kb, .bool kn, .slice ks kS.length kc] 96))
      have BA4 := hide ((X4.out.block _ (lt_of_block S.out.at')).trans S.out.at')
      have BT4 := hide ((X4.out.block _ (lt_of_block S.out.tk)).trans S.out.tk)
      have c0 : (wr.alloc (.cells #[.int .i64 kd, .int .i64 kb, .bool kn, .slice ks kS.length kc] 96)).cell? ⟨w.heap.size, k, none⟩ = some (.bool (f k)) := by rw [cell_of_row _ _ _ _ _ _ BA4.out]; exact mk_get _ _ (by omega)
      have c1 : (wr.alloc (.cells #[.int .i64 kd, .int .i64 kb, .bool kn, .slice ks kS.length kc] 96)).cell? ⟨w.heap.size + 1, k, none⟩ = some (.bool (g k)) := by rw [cell_of_row _ _ _ _ _ _ BT4.out]; exact mk64_get _ _ (by omega)
      cases hf : f k with
      | false =>
        have HE := hide (HNO.out (by rw [hf, Bool.false_and]))
        rw [hf] at c0
        go_wp2
        go_roundw
        case rel => exact ⟨k + 1, by omega, by go_num, S.out.next X4.out HE.out⟩
        case measure => simp [RowKit.intOf]; omega
      | true =>
        rw [hf] at c0
        cases hg : g k with
        | false =>
          have HE := hide (HNO.out (by rw [hg, Bool.and_false]))
          rw [hg] at c1
          go_wp2
          go_roundw
          case rel => exact ⟨k + 1, by omega, by go_num, S.out.next X4.out HE.out⟩
          case measure => simp [RowKit.intOf]; omega
        | true =>
          rw [hg] at c1
          cases hm : manyK kd with
          | false =>
            have HE := hide (HON.out hf hg hm)
            rw [hm] at HMN
            go_wp2_with (go_at_call 86; refine (HMN.out _).mono ?_; rintro e w6 ⟨rfl, x6⟩; have X6 := hide (bt X4.out x6 (Nat.le_refl _)); obtain ⟨e1, e2⟩ := S.out.cell X6.out (k + 1) (by omega); clear x6)
            go_roundw
            case rel => exact ⟨k + 1, by omega, by go_num, S.out.put X6.out _ HE.out⟩
            case measure => simp [RowKit.intOf]; omega
          | true =>
            have HE := hide (HMA.out hf hg hm)
            rw [hm] at HMN
            go_wp2_with (go_at_call 86; refine (HMN.out _).mono ?_; rintro e w6 ⟨rfl, x6⟩; have X6 := hide (bt X4.out x6 (Nat.le_refl _)); obtain ⟨e1, e2⟩ := S.out.cell X6.out k (by omega); clear x6)
            go_roundw
            case rel => exact ⟨k + 1, by omega, by go_num, S.out.put X6.out _ HE.out⟩
            case measure => simp [RowKit.intOf]; omega
    · have hnl : ¬ (k : Int) < (D.length : Int) := by omega
      have hkl : k = D.length := by omega
      subst hkl
      have HCL := hide (closed6_any ao cap D (agF (D.map PD.p) f g D.length) wr hl (HAT.out.below S.out.bel))
      obtain ⟨n, hn⟩ : ∃ n, Hid (n = mk (agF (D.map PD.p) f g D.length)) := ⟨_, rfl⟩
      obtain ⟨m, hm⟩ : ∃ m, Hid (m = mk (clF (D.map PD.p) (agF (D.map PD.p) f g D.length) D.length)) := ⟨_, rfl⟩
      have BN := hide S.out.nx
      rw [← hn.out] at HCL BN
      rw [← hm.out] at HCL
      have BR := hide S.out.res
      have X := hide S.out.bel
      have HI0 : Hid ((Tryz.prog.info? 80).map (·.size) = some n.size) := by unfold Hid; rw [hsz, hn.out, mk_size]
      have HI : Hid ((Tryz.prog.info? 80).map (·.size) = some m.size) := by unfold Hid; rw [hsz, hm.out, mk_size]
      have HZ2 : Hid (z.size = m.size) := by unfold Hid; rw [HZS.out, hm.out, mk_size]
      have HAL : Hid (m.all (·.oneCell') = true) := by unfold Hid; rw [hm.out]; exact mk_all _
      clear hzv hsz hs hs2 S S0
      go_wp2_with (first
        | (refine wpList_load_row rfl 80 (.tmp 7) rfl (w.heap.size + 3) rfl 80 n (0, 0) _ BN.out Tryz.underlying80 rfl HI0.out ?_)
        | (go_at_call 85; refine HCL.out.mono ?_; rintro e w6 ⟨rfl, x6⟩; have X6 := hide (bt X.out x6 (Nat.le_refl _)); have BR6 := hide ((x6.block _ (lt_of_block BR.out)).trans BR.out); clear x6)
        | (refine wpList_store_row rfl 80 (.tmp 6) (.tmp 43) rfl (w.heap.size + 2) m rfl rfl 80 z BR6.out HI.out HZ2.out HAL.out ?_))
      have HBN := hide (setRow_heap w6 (w.heap.size + 2) z m 80 (0, 0) BR6.out)
      have HXN := hide (below_setRow X6.out (by omega : w.heap.size ≤ w.heap.size + 2) m)
      refine bodyPost_ret (v := .agg m) (results_cell_row rfl _ _ (w.heap.size + 2) 80 m (0, 0) _ rfl HBN.out Tryz.underlying80 rfl HI.out) rfl ?_
      exact ⟨by rw [hm.out], HXN.out⟩
set_option maxRecDepth 100000 in
set_option maxHeartbeats 8000000 in
theorem beginning_any (ao : Option Addr) (cap : Nat) (D : List PD) (w : World) (hl : D.length ≤ 64) (hat : PcAt w ao D) :
    Calls Tryz.prog 45 #[.slice ao D.length cap] w fun e w' => e = .returned (.agg (mk (clF (D.map PD.p) (upd (fun _ => false) 0) D.length))) ∧ Below w.heap.size w w' := by
  obtain ⟨hzv, hsz⟩ := zero_of_info Tryz.info80
  have hs := mk_size fun _ => false
  have HAT := hide hat
  obtain ⟨z, hz⟩ : ∃ z, Hid (z = mk fun _ => false) := ⟨_, rfl⟩
  rw [← hz.out] at hzv hs
  have HZS := hide hs
  have x1 : Below w.heap.size w (w.alloc (.cells z 80)) := al (Below.refl _ _) _
  have b1 := heap_alloc_new w (.cells z 80)
  have e1 : (w.alloc (.cells z 80)).heap.size = w.heap.size + 1 := by simp
  have x2 : Below (w.alloc (.cells z 80)).heap.size (w.alloc (.cells z 80)) ((w.alloc (.cells z 80)).alloc (.cells z 80)) := al (Below.refl _ _) _
  have b2 := heap_alloc_new (w.alloc (.cells z 80)) (.cells z 80)
  have B1 := hide ((x2.block _ (by omega)).trans b1)
  rw [e1] at b2
  have B2 := hide b2
  have X2 := hide (bt x1 x2 (Nat.le_refl _))
  obtain ⟨w2, hw2⟩ : ∃ w2, w2 = (w.alloc (.cells z 80)).alloc (.cells z 80) := ⟨_, rfl⟩
  rw [← hw2] at B1 B2 X2
  clear x1 x2 b1 b2 e1 hat hs
  have c0 : w2.cell? ⟨w.heap.size + 1, 0, none⟩ = some (.bool false) := by rw [cell_of_row _ _ _ _ _ _ B2.out, hz.out]; exact mk_get _ _ (by omega)
  have f0 := frozen_of_row _ _ 0 _ _ B2.out
  go_enter Tryz.func45, Tryz.ntmps45
  go_upto_region 2 with fail
  rw [← hw2]
  clear hw2
  have hk6 : Kept (fun i => i = w.heap.size + 1) w2 (w2.setCell ⟨w.heap.size + 1, 0, none⟩ (.bool true)) := Kept.setCell (F := fun i => i = w.heap.size + 1) (p := ⟨w.heap.size + 1, 0, none⟩) (Kept.refl _ _) rfl _
  have B3 : Hid ((w2.setCell ⟨w.heap.size + 1, 0, none⟩ (.bool true)).heap[w.heap.size + 1]? = some (.cells (mk (upd (fun _ => false) 0)) 80 (0, 0))) := by
    unfold Hid
    rw [← mk_set, ← hz.out]
    exact block_setCell B2.out 0 _
  have BR := hide ((hk6.block _ (lt_of_block B1.out) (by omega)).trans B1.out)
  have X := hide (X2.out.trans (hk6.below X2.out.size (fun i hi => by omega)))
  clear hk6 B1 B2 X2
  go_upto_region 3 with fail
  generalize w2.setCell ⟨w.heap.size + 1, 0, none⟩ (.bool true) = w3 at *
  clear c0 f0
  have HCL := hide (closed6_any ao cap D (upd (fun _ => false) 0) w3 hl (HAT.out.below X.out))
  obtain ⟨n, hn⟩ : ∃ n, Hid (n = mk (upd (fun _ => false) 0)) := ⟨_, rfl⟩
  obtain ⟨m, hm⟩ : ∃ m, Hid (m = mk (clF (D.map PD.p) (upd (fun _ => false) 0) D.length)) := ⟨_, rfl⟩
  rw [← hn.out] at HCL B3
  rw [← hm.out] at HCL
  have HI0 : Hid ((Tryz.prog.info? 80).map (·.size) = some n.size) := by unfold Hid; rw [hsz, hn.out, mk_size]
  have HI : Hid ((Tryz.prog.info? 80).map (·.size) = some m.size) := by unfold Hid; rw [hsz, hm.out, mk_size]
  have HZ2 : Hid (z.size = m.size) := by unfold Hid; rw [HZS.out, hm.out, mk_size]
  have HAL : Hid (m.all (·.oneCell') = true) := by unfold Hid; rw [hm.out]; exact mk_all _
  clear hzv hsz
  go_wp2_with (first
    | (refine wpList_load_row rfl 80 (.tmp 3) rfl (w.heap.size + 1) rfl 80 n (0, 0) _ B3.out Tryz.underlying80 rfl HI0.out ?_)
    | (go_at_call 85; refine HCL.out.mono ?_; rintro e w6 ⟨rfl, x6⟩; have X6 := hide (bt X.out x6 (Nat.le_refl _)); have BR6 := hide ((x6.block _ (lt_of_block BR.out)).trans BR.out); clear x6)
    | (refine wpList_store_row rfl 80 (.tmp 2) (.tmp 8) rfl w.heap.size m rfl rfl 80 z BR6.out HI.out HZ2.out HAL.out ?_))
  have HBN := hide (setRow_heap w6 w.heap.size z m 80 (0, 0) BR6.out)
  have HXN := hide (below_setRow X6.out (Nat.le_refl w.heap.size) m)
  refine bodyPost_ret (v := .agg m) (results_cell_row rfl _ _ w.heap.size 80 m (0, 0) _ rfl HBN.out Tryz.underlying80 rfl HI.out) rfl ?_
  exact ⟨by rw [hm.out], HXN.out⟩
end Go.Proofs.YtdgoilkgplnhfaaGreat
