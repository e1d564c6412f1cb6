/-
  An operation's memory: the arena, what is known without a look, what two refs came to, the kids of nodes. No condition.
-/
import Derived.Test.YtaafeflbanoncaaP11
import Derived.Test.YtaafeflbanoncaaP12
namespace Go.Proofs.Ytaafeflbanoncaa
open Go.RowKit Go.Lib Go.Maps

theorem MpAt.tight {w : World} {b m : Nat} {A : List Lit} (h : MpAt w b m A []) : MpAt w b A.length A [] := by
  obtain ⟨D, h1, h2, h3⟩ := h
  refine ⟨D, ownsMap_tight h1 (string_keyed Try.underlying9) A (fun kl hk => ?_), h2, h3⟩
  rcases (h2 kl).1 hk with h | h
  · exact h
  · cases h
theorem CA.tight {w : World} {a : Nat} {S : List Int} {M : Int} {N : List Nd} {m : Nat} {P : Nat → Prop} (h : CA w a S M N m P) : CA w a S M N 8192 P := by
  have hf := h.ok.few
  have hm := h.ok.m1
  obtain ⟨R, sb, sc, nv, mb, h1, rfl⟩ := h
  have e := h1.map.tight
  have h2 : CA w a S M (R.map ND.nd) (R.map fun x => keyL x.nd).length P := ⟨R, sb, sc, nv, mb, ⟨h1.blk, h1.sz, h1.row, h1.kid, e, h1.pa, h1.ps, h1.pn, h1.pm, h1.pk, h1.plt, h1.ok⟩, rfl⟩
  refine h2.mono ?_
  rw [List.length_map] at hf ⊢
  omega
/-- What an operation holds, and what it is. -/
structure Cf where
  a : Nat
  S : List Int
  M : Int
  mm : Nat
  rb : Nat
  kb : Nat
  kv : Value
  op : Bool → Bool → Bool
  q : (Nat → Nat) → (Nat → Nat)
  Z : Prop
  xs : List (Nat × Obj)
def RMap (w : World) (c : Cf) (N : List Nd) : Prop := ∃ D : DataW Unit, w.ownsMap Try.prog 100 (plainElem Try.prog 3) c.rb 67141636 D ∧ ∀ kl, Maps.has D kl = true → ∃ f g r, kl = keyP f g ∧ hasR N f ∧ hasR N g ∧ PtOk c.S N c.op c.q f g r ∧ D.atKey kl (.lit (.int .i64 0)) = .lit (.int .i64 r)
def KMap (w : World) (c : Cf) (N : List Nd) (P G : Nat → Prop) : Prop := ∃ D : DataW Unit, w.ownsMap Try.prog 3 slRd c.kb 8192 D ∧ ∀ kl, Maps.has D kl = true → ∃ (i : Nat) (lv : Int) (ks : List Int) (g cp : Nat), kl = .int .i64 ((i : Int) + 2) ∧ N[i]? = some (lv, ks) ∧ D.atKey kl .nil = slD g ks.length cp ∧ ZBk w g ks ∧ ¬ P g ∧ G g
theorem pairs_len {α : Type} (F : Nat → Nat → α) (n m : Nat) : ((List.range n).flatMap fun i => (List.range m).map fun j => F i j).length = n * m := by
  rw [List.length_flatMap]
  simp [List.map_const', List.sum_replicate_nat]
section
variable {w w' : World} {c : Cf} {N T : List Nd} {P P' G F : Nat → Prop} {M : Int}
theorem RMap.congr (h : RMap w c N) (e : w'.heap[c.rb]? = w.heap[c.rb]?) : RMap w' c N := by
  obtain ⟨D, ⟨es, cl, h1, h2⟩, h3⟩ := h
  exact ⟨D, ⟨es, cl, e.trans h1, h2⟩, h3⟩
theorem RMap.lt (h : RMap w c N) : c.rb < w.heap.size := by
  obtain ⟨D, h1, _⟩ := h
  exact h1.lt
theorem KMap.lt (h : KMap w c N P G) : c.kb < w.heap.size := by
  obtain ⟨D, h1, _⟩ := h
  exact h1.lt
theorem RMap.app (h : RMap w c N) (ok : Ok c.S M N) (hq : ∀ p, Pnt c.S p → Pnt c.S (c.q p)) : RMap w c (N ++ T) := by
  obtain ⟨D, h1, h2⟩ := h
  refine ⟨D, h1, fun kl hk => ?_⟩
  obtain ⟨f, g, r, e, a, b, d, x⟩ := h2 kl hk
  exact ⟨f, g, r, e, hasR_app a, hasR_app b, d.app ok hq a b, x⟩
theorem sq_len (F : Nat → Nat → Lit) (n : Nat) (h : n = 8194) : ((List.range n).flatMap fun i => (List.range n).map fun j => F i j).length = 67141636 := by
  rw [pairs_len, h]
theorem RMap.put {D : DataW Unit} {w' : World} {f g r : Int} (ok : Ok c.S M N) (h2 : ∀ kl, Maps.has D kl = true → ∃ f g r, kl = keyP f g ∧ hasR N f ∧ hasR N g ∧ PtOk c.S N c.op c.q f g r ∧ D.atKey kl (.lit (.int .i64 0)) = .lit (.int .i64 r))
    (hD : IsMap D) (hf : hasR N f) (hg : hasR N g) (hr : PtOk c.S N c.op c.q f g r) {n : Nat} (h1 : w'.ownsMap Try.prog 100 (plainElem Try.prog 3) c.rb n (D.put (keyP f g) (.lit (.int .i64 r)))) : RMap w' c N := by
  have hfew := ok.few
  have hm := ok.m1
  have hrng : ∀ x, hasR N x → 0 ≤ x ∧ x ≤ 4294967296 ∧ x < 8194 := fun x hx => ⟨hx.1, by have := hx.2; omega, by have := hx.2; omega⟩
  obtain ⟨kf, hkf⟩ : ∃ l, keyP f g = l := ⟨_, rfl⟩
  have hky : WideAt.IsKeyLit kf := keyP_key (hrng f hf).1 (hrng f hf).2.1 (hrng g hg).1 (hrng g hg).2.1 hkf
  rw [hkf] at h1
  have hall : ∀ kl, Maps.has (D.put kf (.lit (.int .i64 r))) kl = true → ∃ f' g' r', kl = keyP f' g' ∧ hasR N f' ∧ hasR N g' ∧ PtOk c.S N c.op c.q f' g' r' ∧ (D.put kf (.lit (.int .i64 r))).atKey kl (.lit (.int .i64 0)) = .lit (.int .i64 r') := fun kl hk => by
    by_cases e : kl = kf
    · subst e
      exact ⟨f, g, r, hkf.symm, hf, hg, hr, atKey_put_same hD hky _ _⟩
    · rw [has_put_other e] at hk
      obtain ⟨f', g', r', e', a, b, d, x⟩ := h2 kl hk
      exact ⟨f', g', r', e', a, b, d, by rw [atKey_put_other e]; exact x⟩
  refine ⟨_, ?_, hall⟩
  obtain ⟨n0, hn0⟩ : ∃ n, n = 8194 := ⟨_, rfl⟩
  have ht := ownsMap_tight h1 keyed100 ((List.range n0).flatMap fun (i : Nat) => (List.range n0).map fun (j : Nat) => keyP (i : Int) (j : Int)) (fun kl hk => by
    obtain ⟨f', g', r', hkl, a, b, _⟩ := hall kl hk
    rw [hkl]
    refine List.mem_flatMap.2 ⟨f'.toNat, List.mem_range.2 (by have := hrng f' a; omega), List.mem_map.2 ⟨g'.toNat, List.mem_range.2 (by have := hrng g' b; omega), ?_⟩⟩
    rw [Int.toNat_of_nonneg a.1, Int.toNat_of_nonneg b.1])
  rw [sq_len _ n0 hn0] at ht
  exact ht
theorem KMap.put {D : DataW Unit} {w' : World} {i g cp : Nat} {lv : Int} {ks : List Int} (ok : Ok c.S M N) (h2 : ∀ kl, Maps.has D kl = true → ∃ (i : Nat) (lv : Int) (ks : List Int) (g cp : Nat), kl = .int .i64 ((i : Int) + 2) ∧ N[i]? = some (lv, ks) ∧ D.atKey kl .nil = slD g ks.length cp ∧ ZBk w' g ks ∧ ¬ P g ∧ G g)
    (hD : IsMap D) (hi : N[i]? = some (lv, ks)) (hz : ZBk w' g ks) (hp : ¬ P g) (hgg : G g) {n : Nat} (h1 : w'.ownsMap Try.prog 3 slRd c.kb n (D.put (.int .i64 ((i : Int) + 2)) (slD g ks.length cp))) : KMap w' c N P G := by
  have hfew := ok.few
  have hm := ok.m1
  have hlt := at_lt hi
  have hky : WideAt.IsKeyLit (.int .i64 ((i : Int) + 2)) := keyed3.key (keyI_is (f := (i : Int) + 2) (by omega) (by omega))
  have hall : ∀ kl, Maps.has (D.put (.int .i64 ((i : Int) + 2)) (slD g ks.length cp)) kl = true → ∃ (i' : Nat) (lv' : Int) (ks' : List Int) (g' cp' : Nat), kl = .int .i64 ((i' : Int) + 2) ∧ N[i']? = some (lv', ks') ∧ (D.put (.int .i64 ((i : Int) + 2)) (slD g ks.length cp)).atKey kl .nil = slD g' ks'.length cp' ∧ ZBk w' g' ks' ∧ ¬ P g' ∧ G g' := fun kl hk => by
    by_cases e : kl = .int .i64 ((i : Int) + 2)
    · subst e
      exact ⟨i, lv, ks, g, cp, rfl, hi, atKey_put_same hD hky _ _, hz, hp, hgg⟩
    · rw [has_put_other e] at hk
      obtain ⟨i', lv', ks', g', cp', e', a, b, d, x⟩ := h2 kl hk
      exact ⟨i', lv', ks', g', cp', e', a, by rw [atKey_put_other e]; exact b, d, x⟩
  refine ⟨_, ?_, hall⟩
  obtain ⟨n0, hn0⟩ : ∃ n, n = 8192 := ⟨_, rfl⟩
  have ht := ownsMap_tight h1 keyed3 ((List.range n0).map fun (i : Nat) => Lit.int .i64 ((i : Int) + 2)) (fun kl hk => by
    obtain ⟨i', lv', ks', g', cp', rfl, a, _⟩ := hall kl hk
    exact List.mem_map.2 ⟨i', List.mem_range.2 (by have := at_lt a; omega), rfl⟩)
  rw [List.length_map, List.length_range, hn0] at ht
  exact ht
/-- The memory at work. -/
structure MS (w : World) (c : Cf) (N : List Nd) (P G : Nat → Prop) : Prop where
  ca : CA w c.a c.S c.M N 8192 P
  blk : w.heap[c.mm]? = some (.cells #[.pointer (some ⟨c.a, 0, none⟩), c.kv, .map (some c.rb), .map (some c.kb)] 108 (0, 0))
  pm : ¬ P c.mm
  pr : ¬ P c.rb
  pk : ¬ P c.kb
  ne : c.rb ≠ c.kb
  gl : ∀ k, G k → k < w.heap.size
  ext : ∀ x ∈ c.xs, w.heap[x.1]? = some x.2 ∧ ¬ P x.1 ∧ x.1 ≠ c.rb ∧ x.1 ≠ c.kb
  res : RMap w c N
  kid : KMap w c N P G
theorem lt_of_block2 {w : World} {b : Nat} {o : Obj} (h : w.heap[b]? = some o) : b < w.heap.size := by
  rcases Nat.lt_or_ge b w.heap.size with h1 | h1
  · exact h1
  · rw [Array.getElem?_eq_none h1] at h; cases h
theorem ZBk.not_map {w : World} {b b' : Nat} {L : List Int} {es : _} {cl : _} (h : ZBk w b L) (h' : w.heap[b']? = some (.map es cl)) : b ≠ b' := fun e => by
  obtain ⟨cs, h1, _⟩ := h
  rw [e, h'] at h1
  cases h1
theorem RMap.blk (h : RMap w c N) : ∃ es cl, w.heap[c.rb]? = some (.map es cl) := by
  obtain ⟨D, ⟨es, cl, h1, h2⟩, h3⟩ := h
  exact ⟨es, cl, h1⟩
theorem KMap.blk (h : KMap w c N P G) : ∃ es cl, w.heap[c.kb]? = some (.map es cl) := by
  obtain ⟨D, ⟨es, cl, h1, h2⟩, h3⟩ := h
  exact ⟨es, cl, h1⟩
theorem MS.cells (h : MS w c N P G) : w.cell? ⟨c.mm, 0, none⟩ = some (.pointer (some ⟨c.a, 0, none⟩)) ∧ w.cell? ⟨c.mm, 1, none⟩ = some c.kv ∧ w.cell? ⟨c.mm, 2, none⟩ = some (.map (some c.rb)) ∧ w.cell? ⟨c.mm, 3, none⟩ = some (.map (some c.kb)) := by
  refine ⟨?_, ?_, ?_, ?_⟩ <;> (rw [cell_of_row w c.mm _ _ _ _ h.blk]; rfl)
theorem MS.mlt (h : MS w c N P G) : c.mm < w.heap.size := lt_of_block h.blk
theorem MS.mr (h : MS w c N P G) : c.mm ≠ c.rb := fun e => by
  obtain ⟨es, cl, h1⟩ := h.res.blk
  rw [← e, h.blk] at h1
  cases h1
theorem MS.mkb (h : MS w c N P G) : c.mm ≠ c.kb := fun e => by
  obtain ⟨es, cl, h1⟩ := h.kid.blk
  rw [← e, h.blk] at h1
  cases h1
/-- Nothing of the memory was turned, but the arena may have grown. -/
theorem MS.step (h : MS w c N P G) (hq : ∀ p, Pnt c.S p → Pnt c.S (c.q p)) (hk : Kept P w w') (hca : CA w' c.a c.S c.M (N ++ T) 8192 P') (hP : ∀ k, P' k → P k ∨ w.heap.size ≤ k) : MS w' c (N ++ T) P' G := by
  have hn : ∀ k, k < w.heap.size → ¬ P k → ¬ P' k := fun k h1 h2 h3 => (hP k h3).elim h2 (fun h => by omega)
  refine ⟨hca, (hk.block _ h.mlt h.pm).trans h.blk, hn _ h.mlt h.pm, hn _ h.res.lt h.pr, hn _ h.kid.lt h.pk, h.ne, fun k hg => Nat.lt_of_lt_of_le (h.gl k hg) hk.size, fun x hx => ⟨(hk.block _ (lt_of_block2 (h.ext x hx).1) (h.ext x hx).2.1).trans (h.ext x hx).1, hn _ (lt_of_block2 (h.ext x hx).1) (h.ext x hx).2.1, (h.ext x hx).2.2⟩, (h.res.congr (hk.block _ h.res.lt h.pr)).app h.ca.ok hq, ?_⟩
  obtain ⟨D, ⟨es, cl, h1, h2⟩, h3⟩ := h.kid
  refine ⟨D, ⟨es, cl, (hk.block _ h.kid.lt h.pk).trans h1, h2⟩, fun kl hkl => ?_⟩
  obtain ⟨i, lv, ks, g, cp, e, a, b, d, x⟩ := h3 kl hkl
  exact ⟨i, lv, ks, g, cp, e, by rw [List.getElem?_append_left (at_lt a)]; exact a, b, d.kept hk x.1, hn _ d.lt x.1, x.2⟩
theorem MS.below (h : MS w c N P G) (x : Below w.heap.size w w') : MS w' c N P G := by
  refine ⟨h.ca.below x, (x.block _ h.mlt).trans h.blk, h.pm, h.pr, h.pk, h.ne, fun k hg => Nat.lt_of_lt_of_le (h.gl k hg) x.size, fun y hy => ⟨(x.block _ (lt_of_block2 (h.ext y hy).1)).trans (h.ext y hy).1, (h.ext y hy).2⟩, h.res.congr (x.block _ h.res.lt), ?_⟩
  obtain ⟨D, ⟨es, cl, h1, h2⟩, h3⟩ := h.kid
  refine ⟨D, ⟨es, cl, (x.block _ h.kid.lt).trans h1, h2⟩, fun kl hkl => ?_⟩
  obtain ⟨i, lv, ks, g, cp, e, a, b, d, y⟩ := h3 kl hkl
  exact ⟨i, lv, ks, g, cp, e, a, b, d.below x, y⟩
theorem mapTurned_kept {b : Nat} (t : w.mapTurned w' b) : Kept (fun k => k = b) w w' := by
  have g := t.grown
  exact ⟨g.os, g.tape, g.output, g.size, fun k hk hne => g.block k hk (fun e => hne (Option.some.inj e))⟩
/-- A result was kept. -/
theorem MS.putR (h : MS w c N P G) {D : DataW Unit} {n : Nat} {f g r : Int} (h2 : ∀ kl, Maps.has D kl = true → ∃ f g r, kl = keyP f g ∧ hasR N f ∧ hasR N g ∧ PtOk c.S N c.op c.q f g r ∧ D.atKey kl (.lit (.int .i64 0)) = .lit (.int .i64 r))
    (hD : IsMap D) (hf : hasR N f) (hg : hasR N g) (hr : PtOk c.S N c.op c.q f g r) (h1 : w'.ownsMap Try.prog 100 (plainElem Try.prog 3) c.rb n (D.put (keyP f g) (.lit (.int .i64 r)))) (t : w.mapTurned w' c.rb) : MS w' c N P G := by
  have k := mapTurned_kept t
  refine ⟨h.ca.kept k (fun b hb e => h.pr (e ▸ hb)), (k.block _ h.mlt h.mr).trans h.blk, h.pm, h.pr, h.pk, h.ne, fun b hg => Nat.lt_of_lt_of_le (h.gl b hg) k.size, fun x hx => ⟨(k.block _ (lt_of_block2 (h.ext x hx).1) (h.ext x hx).2.2.1).trans (h.ext x hx).1, (h.ext x hx).2⟩, RMap.put h.ca.ok h2 hD hf hg hr h1, ?_⟩
  obtain ⟨es0, cl0, b0⟩ := h.res.blk
  obtain ⟨D', ⟨es, cl, g1, g2⟩, g3⟩ := h.kid
  refine ⟨D', ⟨es, cl, (k.block _ h.kid.lt (Ne.symm h.ne)).trans g1, g2⟩, fun kl hkl => ?_⟩
  obtain ⟨i, lv, ks, g, cp, e, a, b, d, y⟩ := g3 kl hkl
  exact ⟨i, lv, ks, g, cp, e, a, b, d.kept k (d.not_map b0), y⟩
/-- Kids were kept. -/
theorem MS.putK (h : MS w c N P G) {D : DataW Unit} {n i g cp : Nat} {lv : Int} {ks : List Int} (h2 : ∀ kl, Maps.has D kl = true → ∃ (i : Nat) (lv : Int) (ks : List Int) (g cp : Nat), kl = .int .i64 ((i : Int) + 2) ∧ N[i]? = some (lv, ks) ∧ D.atKey kl .nil = slD g ks.length cp ∧ ZBk w g ks ∧ ¬ P g ∧ G g)
    (hD : IsMap D) (hi : N[i]? = some (lv, ks)) (hz : ZBk w g ks) (hp : ¬ P g) (hgg : G g) (h1 : w'.ownsMap Try.prog 3 slRd c.kb n (D.put (.int .i64 ((i : Int) + 2)) (slD g ks.length cp))) (t : w.mapTurned w' c.kb) : MS w' c N P G := by
  have k := mapTurned_kept t
  obtain ⟨es0, cl0, b0⟩ := h.kid.blk
  refine ⟨h.ca.kept k (fun b hb e => h.pk (e ▸ hb)), (k.block _ h.mlt h.mkb).trans h.blk, h.pm, h.pr, h.pk, h.ne, fun b hg => Nat.lt_of_lt_of_le (h.gl b hg) k.size, fun x hx => ⟨(k.block _ (lt_of_block2 (h.ext x hx).1) (h.ext x hx).2.2.2).trans (h.ext x hx).1, (h.ext x hx).2⟩, h.res.congr (k.block _ h.res.lt h.ne), KMap.put h.ca.ok (fun kl hkl => ?_) hD hi (hz.kept k (hz.not_map b0)) hp hgg h1⟩
  obtain ⟨i, lv, ks, g, cp, e, a, b, d, y⟩ := h2 kl hkl
  exact ⟨i, lv, ks, g, cp, e, a, b, d.kept k (d.not_map b0), y⟩
theorem MS.more (h : MS w c N P G) {G' : Nat → Prop} (hg : ∀ k, G k → G' k) (hl : ∀ k, G' k → k < w.heap.size) : MS w c N P G' := by
  refine ⟨h.ca, h.blk, h.pm, h.pr, h.pk, h.ne, hl, h.ext, h.res, ?_⟩
  obtain ⟨D, h1, h3⟩ := h.kid
  refine ⟨D, h1, fun kl hkl => ?_⟩
  obtain ⟨i, lv, ks, g, cp, e, a, b, d, y⟩ := h3 kl hkl
  exact ⟨i, lv, ks, g, cp, e, a, b, d, y.1, hg g y.2⟩
/-- A block that is no part of it was written into. -/
theorem MS.other (h : MS w c N P G) {ob : Nat} (k : Kept (fun b => b = ob) w w') (hp : ¬ P ob) (hg : ¬ G ob) (hm : ob ≠ c.mm) (hr : ob ≠ c.rb) (hk : ob ≠ c.kb) (hx : ∀ x ∈ c.xs, x.1 ≠ ob) : MS w' c N P G := by
  refine ⟨h.ca.kept k (fun b hb e => hp (e ▸ hb)), (k.block _ h.mlt (Ne.symm hm)).trans h.blk, h.pm, h.pr, h.pk, h.ne, fun b hg => Nat.lt_of_lt_of_le (h.gl b hg) k.size, fun x hy => ⟨(k.block _ (lt_of_block2 (h.ext x hy).1) (hx x hy)).trans (h.ext x hy).1, (h.ext x hy).2⟩, h.res.congr (k.block _ h.res.lt (Ne.symm hr)), ?_⟩
  obtain ⟨D, ⟨es, cl, h1, h2⟩, h3⟩ := h.kid
  refine ⟨D, ⟨es, cl, (k.block _ h.kid.lt (Ne.symm hk)).trans h1, h2⟩, fun kl hkl => ?_⟩
  obtain ⟨i, lv, ks, g, cp, e, a, b, d, y⟩ := h3 kl hkl
  exact ⟨i, lv, ks, g, cp, e, a, b, d.kept k (fun e => hg (e ▸ y.2)), y⟩
/-- What has come to it is new. -/
def Gw (w : World) (P P' : Nat → Prop) : Prop := ∀ k, P' k → P k ∨ w.heap.size ≤ k
theorem Gw.refl (w : World) (P : Nat → Prop) : Gw w P P := fun _ h => .inl h
theorem Gw.trans {w w' : World} {P P' P2 : Nat → Prop} (h : Gw w P P') (h2 : Gw w' P' P2) (hs : w.heap.size ≤ w'.heap.size) : Gw w P P2 := fun k hk => (h2 k hk).elim (fun h1 => h k h1) (fun h1 => .inr (Nat.le_trans hs h1))
theorem Gw.not {w : World} {P P' : Nat → Prop} (h : Gw w P P') {k : Nat} (hk : k < w.heap.size) (hp : ¬ P k) : ¬ P' k := fun h1 => (h k h1).elim hp (fun h2 => by omega)
end
end Go.Proofs.Ytaafeflbanoncaa
/-
  areThere, sizeOf, isPoint by their contracts. Condition: lists no longer than a process can hold.
-/
namespace Go.Proofs.Ytaafeflbanoncaa
open Go.RowKit Go.Lib Go.Maps

section
variable {w : World} {a : Nat} {S : List Int} {M : Int} {N : List Nd} {m : Nat} {P : Nat → Prop}
set_option maxRecDepth 100000 in
set_option maxHeartbeats 1000000 in
theorem areThere_any (ao : Option Addr) (cap : Nat) (A : List Int) (hl : A.length ≤ 140737488351232) (hz : ZAt w ao A) (h : CA w a S M N m P) :
    Calls Try.prog 59 #[.pointer (some ⟨a, 0, none⟩), .slice ao A.length cap] w fun e w' => TellB (∀ f ∈ A, hasR N f) e ∧ Below w.heap.size w w' := by
  have HH := hide h
  have HZ := hide hz
  clear h hz
  go_enter Try.func59, Try.ntmps59
  go_wp2
  go_loopw [11] (fun x wr => ∃ k : Nat, k ≤ A.length ∧ x = .int .i64 k ∧ Hid (∀ i, i < k → hasR N (A.getD i 0)) ∧ Hid (Below w.heap.size w wr)) (fun x _ => A.length - (RowKit.intOf x).toNat)
  case atStart => exact ⟨0, Nat.zero_le _, rfl, fun i h => by omega, Below.refl _ _⟩
  case round =>
    obtain ⟨k, hk, rfl, HE, HQ⟩ := hrel
    by_cases hlt : k < A.length
    · have hlt' : (k : Int) < A.length := by omega
      obtain ⟨b1, o1, rfl, hb1, g1⟩ := HZ.out.get hlt
      have q1 := (HQ.out.cell (p := ⟨b1, o1 + k, none⟩) hb1).trans g1
      clear g1
      have HM : Hid (A.getD k 0 ∈ A) := getD_mem hlt
      have HE2 : Hid (hasR N (A.getD k 0) → ∀ i, i < k + 1 → hasR N (A.getD i 0)) := fun p i hi => by
        rcases Nat.lt_or_ge i k with h | h
        · exact HE.out i h
        · obtain rfl : i = k := by omega
          exact p
      clear HE
      generalize A.getD k 0 = x at *
      have HA := hide ((HH.out.below HQ.out).has x)
      have HI := hide (hasN_iff (f := x) N (n := N.length) rfl)
      cases hb : hasN N.length x
      · rw [hb] at HA
        have HD : Hid (¬ ∀ f ∈ A, hasR N f) := fun h => by
          have := h x HM.out
          rw [← HI.out, hb] at this
          cases this
        clear hb
        go_wp2_with (go_at_call 78; refine HA.out.mono ?_; rintro e w1 ⟨rfl, hw1⟩; have hw2 := hw1.symm; clear hw1; subst hw2)
        go_ret
        exact ⟨TellB.no HD.out, HQ.out⟩
      · rw [hb] at HA
        have HE3 := hide (HE2.out (HI.out.1 hb))
        clear hb HE2
        go_wp2_with (go_at_call 78; refine HA.out.mono ?_; rintro e w1 ⟨rfl, hw1⟩; have hw2 := hw1.symm; clear hw1; subst hw2)
        go_roundw
        case rel => exact ⟨k + 1, by omega, by go_num, HE3, HQ⟩
        case measure => simp [RowKit.intOf]; omega
    · have hlt' : ¬ (k : Int) < A.length := by omega
      have HD : Hid (∀ f ∈ A, hasR N f) := all_of_getD (fun i hi => HE.out i (by omega))
      go_wp2
      go_ret
      exact ⟨TellB.yes HD.out, HQ.out⟩
def szL (S : List Int) (lv : Int) : Int := if 0 ≤ lv ∧ lv < (S.length : Int) then S.getD lv.toNat 0 else 0
set_option maxRecDepth 100000 in
set_option maxHeartbeats 1000000 in
theorem sizeOf_any (lv : Int) (h : CA w a S M N m P) : Calls Try.prog 55 #[.pointer (some ⟨a, 0, none⟩), .int .i64 lv] w fun e w' => e = .returned (.int .i64 (szL S lv)) ∧ Below w.heap.size w w' := by
  have HS := hide h.sizes
  clear h
  by_cases h0 : lv < 0
  · rw [show szL S lv = 0 by unfold szL; rw [if_neg (by omega)]]
    go_enter Try.func55, Try.ntmps55
    go_wp2_with (go_at_call 49; refine HS.out.mono ?_; rintro e w1 ⟨⟨g, c, rfl, o1, z1, l1⟩, x1⟩; have X1 := hide x1; clear o1 z1 l1 x1)
    go_ret
    exact ⟨rfl, X1.out⟩
  by_cases h1 : (S.length : Int) ≤ lv
  · rw [show szL S lv = 0 by unfold szL; rw [if_neg (by omega)]]
    go_enter Try.func55, Try.ntmps55
    go_wp2_with (go_at_call 49; refine HS.out.mono ?_; rintro e w1 ⟨⟨g, c, rfl, o1, z1, l1⟩, x1⟩; have X1 := hide x1; clear o1 z1 l1 x1)
    go_ret
    exact ⟨rfl, X1.out⟩
  obtain ⟨l, rfl⟩ : ∃ l : Nat, lv = l := ⟨lv.toNat, by omega⟩
  have hl1 : l < S.length := by omega
  have hl0 : ¬ (l : Int) < 0 := by omega
  have hl2 : (l : Int) < (S.length : Int) := by omega
  rw [show szL S (l : Int) = S.getD l 0 by unfold szL; rw [if_pos (by omega), Int.toNat_natCast]]
  have HL := hide hl1
  clear h0 h1 hl1
  go_enter Try.func55, Try.ntmps55
  go_upto_region 4 with (go_at_call 49; refine HS.out.mono ?_; rintro e w1 ⟨⟨g, c, rfl, o1, z1, l1⟩, x1⟩; have X1 := hide x1; have Z1 := hide z1; clear o1 z1 l1 x1)
  have q0 := Z1.out.cell HL.out
  obtain ⟨s, hs⟩ : ∃ s, S.getD l 0 = s := ⟨_, rfl⟩
  rw [hs] at q0
  have HSS := hide hs
  clear hs
  go_wp2
  go_ret
  exact ⟨by rw [HSS.out]; rfl, X1.out⟩
/-- Classes of a point. -/
structure PtL (S : List Int) (A : List Int) : Prop where
  len : A.length = S.length
  each : ∀ i, i < A.length → 0 ≤ A.getD i 0 ∧ A.getD i 0 < S.getD i 0
set_option maxRecDepth 100000 in
set_option maxHeartbeats 1000000 in
theorem isPoint_ok (ao : Option Addr) (cap : Nat) (A : List Int) (hA : PtL S A) (hz : ZAt w ao A) (h : CA w a S M N m P) :
    Calls Try.prog 67 #[.pointer (some ⟨a, 0, none⟩), .slice ao A.length cap] w fun e w' => e = .returned (.bool true) ∧ Below w.heap.size w w' := by
  have HS := hide h.sizes
  have hs12 := h.ok.sz.le
  have HP := hide hA
  have HZ := hide hz
  have hlen := hA.len
  rw [← hlen] at HS hs12
  have HL := hide hlen
  clear h hz hA hlen
  go_enter Try.func67, Try.ntmps67
  go_upto_region 2 with (go_at_call 49; refine HS.out.mono ?_; rintro e w1 ⟨⟨g, c, rfl, o1, z1, l1⟩, x1⟩; have X1 := hide x1; have Z1 := hide z1; clear o1 z1 l1 x1)
  clear HS
  go_wp2
  go_loopw [17] (fun x wr => ∃ k : Nat, k ≤ A.length ∧ x = .int .i64 k ∧ Hid (Below w1.heap.size w1 wr)) (fun x _ => A.length - (RowKit.intOf x).toNat)
  case atStart => exact ⟨0, Nat.zero_le _, rfl, Below.refl _ _⟩
  case round =>
    obtain ⟨k, hk, rfl, HQ⟩ := hrel
    by_cases hlt : k < A.length
    · have hlt' : (k : Int) < A.length := by omega
      obtain ⟨b1, o1, rfl, hb1, g1⟩ := (HZ.out.below X1.out).get hlt
      have q1 := (HQ.out.cell (p := ⟨b1, o1 + k, none⟩) hb1).trans g1
      have q2 := (Z1.out.below HQ.out).cell (i := k) (by rw [← HL.out]; exact hlt)
      obtain ⟨p0, p1⟩ := HP.out.each k hlt
      clear g1
      generalize A.getD k 0 = x at *
      generalize S.getD k 0 = y at *
      have p0' : ¬ x < 0 := by omega
      have p1' : ¬ y ≤ x := by omega
      go_wp2
      go_roundw
      case rel => exact ⟨k + 1, by omega, by go_num, HQ⟩
      case measure => simp [RowKit.intOf]; omega
    · have hlt' : ¬ (k : Int) < A.length := by omega
      go_wp2
      go_ret
      exact ⟨rfl, bt X1.out HQ.out (Nat.le_refl _)⟩
end
end Go.Proofs.Ytaafeflbanoncaa
