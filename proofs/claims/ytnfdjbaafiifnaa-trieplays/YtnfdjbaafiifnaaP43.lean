/-
  The book of lists that came out: untouched ones, what they must be, marked ones at each length. Of no program: no condition.
-/
import Derived.Test.YtnfdjbaafiifnaaP12
import Derived.Test.YtnfdjbaafiifnaaP42
import Derived.Test.YtnfdjbaafiifnaaP23
namespace Go.Proofs.Ytnfdjbaafiifnaa
open Go.RowKit Go.Lib

def mcR (i : Nat) : List Value := [.int .i64 0, .int .i64 0, .int .i64 (-1 - (i : Int))]
theorem mcR_len (i : Nat) : (mcR i).length = 3 := rfl
/-- The blocks that the book's owner may write into. -/
def BkF (base : Nat) (w : World) (k : Nat) : Prop := base ≤ k ∧ ∃ cs T f, w.heap[k]? = some (.cells cs T f) ∧ (T = 28 ∨ T = 44 ∨ T = 65)
def BkK (base : Nat) (w w' : World) : Prop := Kept (BkF base w) w w'
theorem BkF.back {base : Nat} {w a : World} {k : Nat} {F : Nat → Prop} (h : Kept F w a) (hk : k < w.heap.size) (hf : BkF base a k) : F k ∨ BkF base w k := by
  by_cases hF : F k
  · exact .inl hF
  · obtain ⟨h1, cs, T, f, h2, h3⟩ := hf
    exact .inr ⟨h1, cs, T, f, (h.block k hk hF).symm.trans h2, h3⟩
theorem BkK.refl (base : Nat) (w : World) : BkK base w w := Kept.refl _ _
theorem BkK.trans {base : Nat} {a b c : World} (h : BkK base a b) (k : BkK base b c) : BkK base a c := Kept.trans_new h k (fun i hi hf => by
  rcases BkF.back h hi hf with h1 | h1 <;> exact h1)
theorem BkK.of_below {base : Nat} {a b : World} (h : Below a.heap.size a b) : BkK base a b := Kept.of_below h
theorem BkK.next {base : Nat} {a b c : World} (h : BkK base a b) (k : Below b.heap.size b c) : BkK base a c := h.trans (BkK.of_below k)
theorem BkK.of_kept {base : Nat} {F : Nat → Prop} {a b : World} (h : Kept F a b) (hF : ∀ k, F k → BkF base a k) : BkK base a b := h.mono hF
theorem BkK.below {base : Nat} {a b : World} (h : BkK base a b) (hb : base ≤ a.heap.size) : Below base a b := Kept.below h hb (fun _ h => h.1)
theorem appK {w w' : World} {v v' : Value} (h : AppAt w w' v v') : Kept (fun k => v.ownBlock = some k) w w' := by
  rcases h with ⟨g, a, b, c⟩ | ⟨a, b⟩
  · exact (kept_of_grown c).mono (fun k hk => a.trans hk)
  · exact Kept.of_below (below_of_grown a)
theorem appN {w w' : World} {v v' u : Value} {base n size : Nat} {e : TypeId} {xs : List Value} (h : AppAt w w' v v') (hu : w.ownsRow base e size u n xs) (hvu : ∀ k, v.ownBlock = some k → ¬ u.ownBlock = some k) : ∀ k, v'.ownBlock = some k → ¬ u.ownBlock = some k := by
  intro k hk hk2
  rcases h with ⟨g, a, b, c⟩ | ⟨a, b⟩
  · rw [b] at hk
    exact hvu k (a.trans hk) hk2
  · have := b k hk
    have := (World.ownsRow.lt hu k hk2).2
    omega
theorem BkF.own {base size n : Nat} {w : World} {e : TypeId} {v : Value} {xs : List Value} (h : w.ownsRow base e size v n xs) (he : e = 28 ∨ e = 44 ∨ e = 65) {k : Nat} (hk : v.ownBlock = some k) : BkF base w k := by
  obtain ⟨cs, h1⟩ := own_ty h k hk
  exact ⟨(World.ownsRow.lt h k hk).1, cs, e, _, h1, he⟩
theorem BkK.app {base size n : Nat} {w w' : World} {e : TypeId} {v v' : Value} {xs : List Value} (h : AppAt w w' v v') (ho : w.ownsRow base e size v n xs) (he : e = 28 ∨ e = 44 ∨ e = 65) : BkK base w w' :=
  BkK.of_kept (appK h) (fun _ hk => BkF.own ho he hk)
/-- All but the book's own block. -/
structure BkR (w : World) (base : Nat) (fr wa al : Value) (n : Nat) (FD WD A : List LD) (RR : Nat → List Rw) : Prop where
  ls : LsAt 44 65 3 w base fr FD (fun j => rwCells (RR j))
  fn : ∀ j (h : j < FD.length), (FD[j]).n = (RR j).length
  wr : w.ownsRow base 44 1 wa WD.length (WD.map LD.v)
  wo : ∀ j (h : j < WD.length), OwnR w base (WD[j]).v (RR j)
  ao : w.ownsRow base 44 1 al A.length (A.map LD.v)
  len : A.length = 5 * n
  views : ∀ j (hj : j < A.length), Vw 65 3 mcR w (A[j]).v (A[j]).n (j / 5) ∧ ∀ k, (A[j]).v.ownBlock = some k → ¬ FutL FD 0 k
  fw : ∀ k, fr.ownBlock = some k → ¬ wa.ownBlock = some k
  fa : ∀ k, al.ownBlock = some k → ¬ fr.ownBlock = some k
  wl : ∀ k, al.ownBlock = some k → ¬ wa.ownBlock = some k
  few : ∀ j, (RR j).length ≤ 4294967296
structure BkAt (w : World) (base bb : Nat) (fr wa al : Value) (n : Nat) (FD WD A : List LD) (RR : Nat → List Rw) : Prop where
  blk : w.heap[bb]? = some (.cells #[fr, wa, al, .int .i64 n] 28 (0, 0))
  bas : base ≤ bb
  rest : BkR w base fr wa al n FD WD A RR
section
variable {w w' : World} {base bb : Nat} {fr wa al : Value} {n : Nat} {FD WD A : List LD} {RR : Nat → List Rw}
theorem LsAt.kept' {TS T : TypeId} {sz : Nat} {l : Value} {D : List LD} {X : Nat → List Value} {F : Nat → Prop} (h : LsAt TS T sz w base l D X) (hk : Kept F w w') (hF : ∀ k, F k → ∃ cs t f, w.heap[k]? = some (.cells cs t f) ∧ t ≠ TS ∧ t ≠ T) : LsAt TS T sz w' base l D X := by
  have hQ : KeepQ (fun t => t ≠ TS ∧ t ≠ T) w w' := KeepQ.kept hk (fun k hf => by
    obtain ⟨cs, t, f, h1, h2⟩ := hF k hf
    exact ⟨cs, t, f, h1, h2⟩)
  exact h.keepQ hQ (fun h => h.1 rfl) (fun h => h.2 rfl)
theorem BkR.kept {F : Nat → Prop} (h : BkR w base fr wa al n FD WD A RR) (hk : Kept F w w') (hF : ∀ k, F k → ∃ cs t f, w.heap[k]? = some (.cells cs t f) ∧ t ≠ 44 ∧ t ≠ 65) : BkR w' base fr wa al n FD WD A RR := by
  have hQ : KeepQ (fun t => t ≠ 44 ∧ t ≠ 65) w w' := KeepQ.kept hk (fun k hf => by
    obtain ⟨cs, t, f, h1, h2⟩ := hF k hf
    exact ⟨cs, t, f, h1, h2⟩)
  have q1 : ¬ ((44 : TypeId) ≠ 44 ∧ (44 : TypeId) ≠ 65) := fun h => h.1 rfl
  have q2 : ¬ ((65 : TypeId) ≠ 44 ∧ (65 : TypeId) ≠ 65) := fun h => h.2 rfl
  exact ⟨h.ls.keepQ hQ q1 q2, h.fn, own_keepQ h.wr hQ q1, fun j hj => own_keepQ (h.wo j hj) hQ q2, own_keepQ h.ao hQ q1, h.len, fun j hj => ⟨(h.views j hj).1.keepQ hQ q2, (h.views j hj).2⟩, h.fw, h.fa, h.wl, h.few⟩
theorem BkR.below (h : BkR w base fr wa al n FD WD A RR) (x : Below w.heap.size w w') : BkR w' base fr wa al n FD WD A RR :=
  h.kept (F := fun _ => False) (Kept.of_below x) (fun _ h => h.elim)
theorem BkAt.kept {F : Nat → Prop} (h : BkAt w base bb fr wa al n FD WD A RR) (hk : Kept F w w') (hF : ∀ k, F k → ∃ cs t f, w.heap[k]? = some (.cells cs t f) ∧ t ≠ 28 ∧ t ≠ 44 ∧ t ≠ 65) : BkAt w' base bb fr wa al n FD WD A RR :=
  ⟨(hk.block bb (lt_of_block h.blk) (fun hf => by
    obtain ⟨cs, t, f, h1, h2, _⟩ := hF bb hf
    rw [h.blk] at h1
    simp at h1
    exact h2 h1.2.1.symm)).trans h.blk, h.bas, h.rest.kept hk (fun k hf => by
    obtain ⟨cs, t, f, h1, _, h2⟩ := hF k hf
    exact ⟨cs, t, f, h1, h2⟩)⟩
theorem BkAt.below (h : BkAt w base bb fr wa al n FD WD A RR) (x : Below w.heap.size w w') : BkAt w' base bb fr wa al n FD WD A RR :=
  h.kept (F := fun _ => False) (Kept.of_below x) (fun _ h => h.elim)
/-- A list more came out. -/
theorem BkR.pushF (h : BkR w base fr wa al n FD WD A RR) {w0 : World} (h0 : BkR w0 base fr wa al n FD WD A RR) (hW : WD.length = FD.length) {l fr' : Value} {R : List Rw} (hl : OwnR w base l R) (hn : ∀ k, l.ownBlock = some k → w0.heap.size ≤ k) (hR : R.length ≤ 4294967296)
    (h1 : w'.ownsRow base 44 1 fr' (FD.length + 1) (FD.map LD.v ++ [l])) (h2 : AppAt w w' fr fr') : BkR w' base fr' wa al n (FD ++ [⟨l, R.length⟩]) WD A (fun j => if j = FD.length then R else RR j) := by
  have hk := appK h2
  have ne65 : ∀ {u : Value} {m : Nat} {xs : List Value}, w.ownsRow base 65 3 u m xs → ∀ k, u.ownBlock = some k → ¬ fr.ownBlock = some k := fun hu k a b => own_ne h.ls.row hu (by decide) k b a
  refine ⟨⟨by rw [List.map_append, List.length_append]; exact h1, fun j hj => ?_, ?_⟩, fun j hj => ?_, own_kept h.wr hk (fun k a b => h.fw k b a), fun j hj => ?_, own_kept h.ao hk (fun k a b => h.fa k a b), h.len, fun j hj => ⟨(h.views j hj).1.kept hk (fun k a b => ?_), fun k a => ?_⟩, appN h2 h.wr h.fw, fun k a b => appN h2 h.ao (fun k c d => h.fa k d c) k b a, h.wl, fun j => ?_⟩
  · by_cases hja : j < FD.length
    · rw [List.getElem_append_left hja]
      simp only [show ¬ j = FD.length by omega, if_false]
      exact own_kept (h.ls.each j hja) hk (ne65 (h.ls.each j hja))
    · have hje : j = FD.length := by rw [List.length_append] at hj; simp at hj; omega
      subst hje
      rw [List.getElem_append_right (Nat.le_refl _)]
      simp only [Nat.sub_self, List.getElem_cons_zero, if_true]
      exact own_kept hl hk (ne65 hl)
  · unfold ApartL
    rw [List.pairwise_append]
    refine ⟨h.ls.apart, List.pairwise_singleton _ _, fun x hx y hy k hk1 hk2 => ?_⟩
    obtain rfl := List.mem_singleton.1 hy
    obtain ⟨i, hi, rfl⟩ := List.getElem_of_mem hx
    have := (World.ownsRow.lt (h0.ls.each i hi) k hk1).2
    have := hn k hk2
    omega
  · by_cases hja : j < FD.length
    · rw [List.getElem_append_left hja]
      simp only [show ¬ j = FD.length by omega, if_false]
      exact h.fn j hja
    · have hje : j = FD.length := by rw [List.length_append] at hj; simp at hj; omega
      subst hje
      rw [List.getElem_append_right (Nat.le_refl _)]
      simp only [Nat.sub_self, List.getElem_cons_zero, if_true]
  · simp only [show ¬ j = FD.length by omega, if_false]
    exact own_kept (h.wo j hj) hk (ne65 (h.wo j hj))
  · obtain ⟨cs, h5⟩ := (h.views j hj).1.ty k a
    obtain ⟨cs', h6⟩ := own_ty h.ls.row k b
    rw [h5] at h6
    simp at h6
  · rintro ⟨i', b, _, d⟩
    by_cases hja : i' < FD.length
    · rw [List.getElem_append_left hja] at d
      exact (h.views j hj).2 k a ⟨i', hja, Nat.zero_le _, d⟩
    · have hje : i' = FD.length := by rw [List.length_append] at b; simp at b; omega
      subst hje
      rw [List.getElem_append_right (Nat.le_refl _)] at d
      simp only [Nat.sub_self, List.getElem_cons_zero] at d
      have := (h0.views j hj).1.lt k a
      have := hn k d
      omega
  · by_cases hj : j = FD.length
    · simp only [hj, if_true]; exact hR
    · simp only [hj, if_false]; exact h.few j
/-- What it must be. -/
theorem BkR.pushW (h : BkR w base fr wa al n FD WD A RR) {l wa' : Value} {R : List Rw} (hl : OwnR w base l R) (hR : RR WD.length = R)
    (h1 : w'.ownsRow base 44 1 wa' (WD.length + 1) (WD.map LD.v ++ [l])) (h2 : AppAt w w' wa wa') : BkR w' base fr wa' al n FD (WD ++ [⟨l, R.length⟩]) A RR := by
  have hk := appK h2
  have ne65 : ∀ {u : Value} {m : Nat} {xs : List Value}, w.ownsRow base 65 3 u m xs → ∀ k, u.ownBlock = some k → ¬ wa.ownBlock = some k := fun hu k a b => own_ne h.wr hu (by decide) k b a
  refine ⟨⟨own_kept h.ls.row hk (fun k a b => h.fw k a b), fun j hj => own_kept (h.ls.each j hj) hk (ne65 (h.ls.each j hj)), h.ls.apart⟩, h.fn, by rw [List.map_append, List.length_append]; exact h1, fun j hj => ?_, own_kept h.ao hk (fun k a b => h.wl k a b), h.len, fun j hj => ⟨(h.views j hj).1.kept hk (fun k a b => ?_), (h.views j hj).2⟩, fun k a b => appN h2 h.ls.row (fun k c d => h.fw k d c) k b a, h.fa, fun k a b => appN h2 h.ao (fun k c d => h.wl k d c) k b a, h.few⟩
  · by_cases hja : j < WD.length
    · rw [List.getElem_append_left hja]
      exact own_kept (h.wo j hja) hk (ne65 (h.wo j hja))
    · have hje : j = WD.length := by rw [List.length_append] at hj; simp at hj; omega
      subst hje
      rw [List.getElem_append_right (Nat.le_refl _)]
      simp only [Nat.sub_self, List.getElem_cons_zero]
      rw [hR]
      exact own_kept hl hk (ne65 hl)
  · obtain ⟨cs, h5⟩ := (h.views j hj).1.ty k a
    obtain ⟨cs', h6⟩ := own_ty h.wr k b
    rw [h5] at h6
    simp at h6
end
end Go.Proofs.Ytnfdjbaafiifnaa
/-
  Lists that are marked, then grown: where that begins, and what else may change meanwhile; mark by its contract. No condition.
-/
namespace Go.Proofs.Ytnfdjbaafiifnaa
open Go.RowKit Go.Lib

section
variable {K : Nat} {TS T : TypeId} {sz : Nat} {mc : Nat → List Value} {Q : TypeId → Prop}
theorem KqO.keepQ {w w' : World} {base : Nat} {l o : Value} {R : List Value} {D A : List LD} {i : Nat} (h : KqO K TS T sz mc w base l R o D A i) (hk : KeepQ Q w w') (h1 : ¬ Q TS) (h2 : ¬ Q T) : KqO K TS T sz mc w' base l R o D A i :=
  ⟨own_keepQ h.row hk h1, own_keepQ h.all hk h1, h.ol, h.len, fun j hj => ⟨(h.views j hj).1.keepQ hk h2, (h.views j hj).2⟩, fun i' a b => own_keepQ (h.lists i' a b) hk h2, h.apart⟩
theorem Kq.keepQ {w w' : World} {base : Nat} {l o : Value} {R : List Value} {D A : List LD} {i q : Nat} {x : Value} {nx : Nat} (h : Kq K TS T sz mc w base l R o D A i q x nx) (hk : KeepQ Q w w') (h1 : ¬ Q TS) (h2 : ¬ Q T) : Kq K TS T sz mc w' base l R o D A i q x nx :=
  ⟨own_keepQ h.row hk h1, own_keepQ h.all hk h1, h.ol, h.len, fun j hj => ⟨(h.views j hj).1.keepQ hk h2, (h.views j hj).2⟩, own_keepQ h.own hk h2, h.xf, fun i' a b => own_keepQ (h.lists i' a b) hk h2, h.apart⟩
end
/-- Lists behind n others. -/
def dum (n : Nat) (FD : List LD) : List LD := List.replicate n ⟨.slice none 0 0, 0⟩ ++ FD
theorem dum_length (n : Nat) (FD : List LD) : (dum n FD).length = n + FD.length := by simp [dum]
theorem dum_get (n : Nat) (FD : List LD) (i : Nat) (h : i < FD.length) : (dum n FD)[n + i]'(by rw [dum_length]; omega) = FD[i] := by
  unfold dum
  rw [List.getElem_append_right (by simp)]
  simp
theorem dum_fut {n : Nat} {FD : List LD} {k : Nat} (h : FutL (dum n FD) n k) : FutL FD 0 k := by
  obtain ⟨i', h1, h2, h3⟩ := h
  rw [dum_length] at h1
  obtain ⟨t, rfl⟩ : ∃ t, i' = n + t := ⟨i' - n, by omega⟩
  rw [dum_get n FD t (by omega)] at h3
  exact ⟨t, by omega, Nat.zero_le _, h3⟩
theorem dum_apart {n : Nat} {FD : List LD} (h : ApartL FD) : ApartL (dum n FD) := by
  unfold ApartL dum
  rw [List.pairwise_append]
  refine ⟨?_, h, fun x hx y _ k hk => ?_⟩
  · rw [List.pairwise_replicate]
    exact .inr (fun k hk => by cases hk)
  · obtain rfl := List.eq_of_mem_replicate hx
    cases hk
theorem kq_start {w0 w : World} {base : Nat} {fr wa al : Value} {n : Nat} {FD WD A : List LD} {RR : Nat → List Rw} {X : Nat → List Value} (h : BkR w0 base fr wa al n FD WD A RR) (m : Mkg 44 65 3 (fun i => mcR (n + i)) w0 base fr FD FD.length 0 X w) : KqO 5 44 65 3 mcR w base fr (FD.map LD.v) al (dum n FD) A (n + 0) := by
  refine ⟨by rw [List.length_map]; exact m.ls.row, own_keepQ h.ao m.keep (by decide), h.fa, h.len, fun j hj => ⟨(h.views j hj).1.kept m.kd (h.views j hj).2, fun k hk hf => (h.views j hj).2 k hk (dum_fut hf)⟩, fun i' h1 h2 => ?_, dum_apart m.ls.apart⟩
  rw [dum_length] at h1
  obtain ⟨t, rfl⟩ : ∃ t, i' = n + t := ⟨i' - n, by omega⟩
  have ht : t < FD.length := by omega
  have e := dum_get n FD t ht
  have := m.ls.each t ht
  rw [m.done t ht ht] at this
  rw [e]
  exact this
set_option maxRecDepth 100000 in
theorem mark_any (i : Nat) (hi : i ≤ 1099511627776) (w : World) : Calls Try.prog 32 #[.int .i64 (i : Int)] w fun e w' => e = .returned (.agg #[.int .i64 0, .int .i64 0, .int .i64 (-1 - (i : Int))]) ∧ Below w.heap.size w w' := by
  have fw : IntKind.i64.wrap (-1 - (i : Int)) = -1 - (i : Int) := by simp [IntKind.wrap, IntKind.bits, IntKind.signed]; omega
  go_enter Try.func32, Try.ntmps32
  go_wp2
  refine bodyPost_ret (by simp [results, Try.results32, go_sem]; try rfl) rfl ?_
  exact ⟨rfl, al (Below.refl _ _) _⟩
end Go.Proofs.Ytnfdjbaafiifnaa
