/-
  The document's parts of states: parted by labels, and again by where columns lead, till nothing changes. Of no program's walk: the conditions are named.
-/
import Derived.Test.YtdgoilkgplnhfaaGreatB05
import Derived.Laws.BytesArg
import Derived.Deep.DeepCutAuto
import Derived.Deep.LoopGhost
namespace Go.Proofs.YtdgoilkgplnhfaaGreat
structure RdT (D : DF) (l : List Nat) : Prop where
  n : ∀ s ∈ l, s < D.n
  z : 0 ∈ l
  cl : ∀ s ∈ l, ∀ b, b < 256 → D.step s b ∈ l
  re : ∀ s ∈ l, ∃ t, Txt t ∧ D.run 0 t = s
structure DpS (D : DF) (l : List Nat) (f : Nat → Nat) (m : Nat) : Prop where
  lt : ∀ s ∈ l, f s < m
  hit : ∀ r, r < m → ∃ s, s ∈ l ∧ f s = r
  eqv : ∀ s ∈ l, ∀ t ∈ l, D.Eqv s t → f s = f t
  lab : ∀ s ∈ l, ∀ t ∈ l, f s = f t → D.ou s = D.ou t
  z : f 0 = 0
theorem same_parts {l : List Nat} {f g : Nat → Nat} {m : Nat} (hf : ∀ s ∈ l, f s < m) (hg : ∀ r, r < m → ∃ s, s ∈ l ∧ g s = r) (href : ∀ s ∈ l, ∀ t ∈ l, f s = f t → g s = g t) : ∀ s ∈ l, ∀ t ∈ l, g s = g t → f s = f t := fun s hs t ht e => by
  apply Classical.byContradiction
  intro hne
  have hc : ∀ r, ∃ u, r < m → u ∈ l ∧ g u = r := fun r => by
    by_cases hr : r < m
    · obtain ⟨u, hu⟩ := hg r hr
      exact ⟨u, fun _ => hu⟩
    · exact ⟨0, fun h => absurd h hr⟩
  obtain ⟨h, hh⟩ : ∃ h : Nat → Nat, ∀ r, r < m → h r ∈ l ∧ g (h r) = r := ⟨fun r => (hc r).choose, fun r => (hc r).choose_spec⟩
  obtain ⟨x, hx, hx1, hx2⟩ : ∃ x, x ∈ l ∧ g x = g s ∧ f (h (g s)) ≠ f x := by
    by_cases h1 : f (h (g s)) = f s
    · exact ⟨t, ht, e.symm, fun h2 => hne (h1.symm.trans h2)⟩
    · exact ⟨s, hs, rfl, h1⟩
  have := pigeon m (m + 1) (fun r => if r < m then f (h r) else f x) (fun i hi => by
    by_cases h1 : i < m
    · simp only [if_pos h1]; exact hf _ (hh i h1).1
    · simp only [if_neg h1]; exact hf _ hx) (fun i hi j hj e1 => by
    have key : ∀ r, r < m → f (h r) = f x → False := fun r hr e2 => by
      have h1 := href _ (hh r hr).1 _ hx e2
      rw [(hh r hr).2, hx1] at h1
      rw [h1] at e2
      exact hx2 e2
    by_cases h1 : i < m
    · by_cases h2 : j < m
      · simp only [if_pos h1, if_pos h2] at e1
        have h3 := href _ (hh i h1).1 _ (hh j h2).1 e1
        rw [(hh i h1).2, (hh j h2).2] at h3
        exact h3
      · simp only [if_pos h1, if_neg h2] at e1
        exact (key i h1 e1).elim
    · by_cases h2 : j < m
      · simp only [if_neg h1, if_pos h2] at e1
        exact (key j h2 e1.symm).elim
      · omega)
  omega
structure SwS (D : DF) (l : List Nat) (g : Nat → Nat) (C : List Nat) (k : Nat) (f : Nat → Nat) (m : Nat) : Prop extends DpS D l f m where
  ref : ∀ s ∈ l, ∀ t ∈ l, f s = f t → g s = g t
  st : ∀ s ∈ l, ∀ t ∈ l, f s = f t → ∀ j, j < k → g (D.nx s (gN C j)) = g (D.nx t (gN C j))
section
variable {D : DF} {l C : List Nat} {f g f' : Nat → Nat} {k m m' m0 : Nat}
theorem SwS.start (h : DpS D l f m) : SwS D l f C 0 f m := ⟨h, fun _ _ _ _ e => e, fun _ _ _ _ _ j hj => by omega⟩
theorem SwS.next (hr : RdT D l) (hg : DpS D l g m0) (h : SwS D l g C k f m) (hC : ∃ b, b < 256 ∧ D.bc b = gN C k) (hlt : ∀ s ∈ l, f' s < m') (hhit : ∀ r, r < m' → ∃ s, s ∈ l ∧ f' s = r) (hz : f' 0 = 0)
    (hs : ∀ s ∈ l, ∀ t ∈ l, (f' s = f' t ↔ f s = f t ∧ g (D.nx s (gN C k)) = g (D.nx t (gN C k)))) : SwS D l g C (k + 1) f' m' := by
  obtain ⟨b, hb, eb⟩ := hC
  refine ⟨⟨hlt, hhit, fun s h1 t h2 e => (hs s h1 t h2).2 ⟨h.eqv s h1 t h2 e, ?_⟩, fun s h1 t h2 e => h.lab s h1 t h2 ((hs s h1 t h2).1 e).1, hz⟩, fun s h1 t h2 e => h.ref s h1 t h2 ((hs s h1 t h2).1 e).1, fun s h1 t h2 e j hj => ?_⟩
  · rw [← eb]
    exact hg.eqv _ (hr.cl s h1 b hb) _ (hr.cl t h2 b hb) (e.step hb)
  · obtain ⟨e1, e2⟩ := (hs s h1 t h2).1 e
    by_cases hjk : j < k
    · exact h.st s h1 t h2 e1 j hjk
    · rw [show j = k by omega]; exact e2
theorem SwS.done (hr : RdT D l) (hg : DpS D l g m) (h : SwS D l g C C.length f m) (hC : ∀ b, b < 256 → ∃ j, j < C.length ∧ ∀ s ∈ l, D.nx s (D.bc b) = D.nx s (gN C j)) : ∀ s ∈ l, ∀ t ∈ l, (f s = f t ↔ D.Eqv s t) := by
  have hsame := same_parts h.lt hg.hit h.ref
  have key : ∀ (u : List Nat) (s t : Nat), s ∈ l → t ∈ l → f s = f t → Txt u → D.lab s u = D.lab t u := by
    intro u
    induction u with
    | nil => intro s t hs ht e _; exact h.lab s hs t ht e
    | cons b u ih =>
      intro s t hs ht e hu
      obtain ⟨hb, hu⟩ := hu.tail
      show D.lab (D.step s b) u = D.lab (D.step t b) u
      refine ih _ _ (hr.cl s hs b hb) (hr.cl t ht b hb) (hsame _ (hr.cl s hs b hb) _ (hr.cl t ht b hb) ?_) hu
      obtain ⟨j, hj, ej⟩ := hC b hb
      unfold DF.step
      rw [ej s hs, ej t ht]
      exact h.st s hs t ht e j hj
  exact fun s hs t ht => ⟨fun e u hu => key u s t hs ht e hu, fun e => h.eqv s hs t ht e⟩
end
theorem none_of {D : DF} {l : List Nat} (hr : RdT D l) {N : Nat} {g : Nat → Nat} (hg : ∀ i, i < N → g i ∈ l) (hne : ∀ i, i < N → ∀ j, j < N → D.Eqv (g i) (g j) → i = j) {E : DF} (hE : E.Ok) (hl : ∀ t, Txt t → E.lab 0 t = D.lab 0 t) : N ≤ E.n := by
  have hc : ∀ i, ∃ s', i < N → s' < E.n ∧ ∀ u, Txt u → E.lab s' u = D.lab (g i) u := fun i => by
    by_cases hi : i < N
    · obtain ⟨t, k1, k2⟩ := hr.re (g i) (hg i hi)
      refine ⟨E.run 0 t, fun _ => ⟨hE.run hE.n0 k1, fun u hu => ?_⟩⟩
      have := hl (t ++ u) (k1.app hu)
      unfold DF.lab at this ⊢
      rw [DF.run_app, DF.run_app, k2] at this
      exact this
    · exact ⟨0, fun h => absurd h hi⟩
  refine pigeon E.n N (fun i => (hc i).choose) (fun i hi => ((hc i).choose_spec hi).1) (fun i hi j hj e => hne i hi j hj (fun u hu => ?_))
  have e' : (hc i).choose = (hc j).choose := e
  rw [← ((hc i).choose_spec hi).2 u hu, ← ((hc j).choose_spec hj).2 u hu, e']
structure KnS (l : List Nat) (key : Nat → Nat) (k : Nat) (PL NU : List Nat) (m : Nat) : Prop where
  a : ∀ i, i < k → gN NU (key (gN l i)) = gN PL (gN l i) + 1
  b : ∀ i, i < k → gN PL (gN l i) < m
  c : ∀ x, gN NU x ≠ 0 → ∃ i, i < k ∧ key (gN l i) = x
  d : ∀ r, r < m → ∃ i, i < k ∧ gN PL (gN l i) = r
  e : ∀ x y, gN NU x ≠ 0 → gN NU x = gN NU y → x = y
  z : 0 < k → gN PL (gN l 0) = 0
theorem gN_sT {L : List Nat} {i j v : Nat} (h : i < L.length) : gN (L.set i v) j = if j = i then v else gN L j := by
  unfold gN
  simp only [List.getD_eq_getElem?_getD, List.getElem?_set]
  by_cases e : i = j
  · subst e; simp [h]
  · rw [if_neg e, if_neg (fun h => e h.symm)]
section
variable {l PL NU : List Nat} {key : Nat → Nat} {k m : Nat}
theorem KnS.start (h : ∀ x, gN NU x = 0) : KnS l key 0 PL NU 0 := ⟨fun i hi => by omega, fun i hi => by omega, fun x hx => absurd (h x) hx, fun r hr => by omega, fun x _ hx => absurd (h x) hx, fun hk => by omega⟩
theorem KnS.old (h : KnS l key k PL NU m) (hl : gN l k < PL.length) (hk : gN NU (key (gN l k)) ≠ 0) : KnS l key (k + 1) (PL.set (gN l k) (gN NU (key (gN l k)) - 1)) NU m := by
  obtain ⟨i0, h1, h2⟩ := h.c _ hk
  have e0 := h.a i0 h1
  have b0 := h.b i0 h1
  rw [h2] at e0
  have ge : ∀ i, i < k + 1 → gN (PL.set (gN l k) (gN NU (key (gN l k)) - 1)) (gN l i) + 1 = gN NU (key (gN l i)) := fun i hi => by
    rw [gN_sT hl]
    by_cases e : gN l i = gN l k
    · rw [if_pos e, e]; omega
    · rw [if_neg e]
      have hik : i < k := by
        rcases Nat.lt_or_ge i k with h3 | h3
        · exact h3
        · exact absurd (show gN l i = gN l k by rw [show i = k by omega]) e
      exact (h.a i hik).symm
  refine ⟨fun i hi => (ge i hi).symm, fun i hi => ?_, fun x hx => ?_, fun r hr => ?_, h.e, fun _ => ?_⟩
  · have h3 := ge i hi
    by_cases hik : i < k
    · have h4 := h.a i hik
      have h5 := h.b i hik
      omega
    · rw [show i = k by omega] at h3 ⊢
      omega
  · obtain ⟨i, h3, h4⟩ := h.c x hx
    exact ⟨i, by omega, h4⟩
  · obtain ⟨i, h3, h4⟩ := h.d r hr
    refine ⟨i, by omega, ?_⟩
    have h5 := ge i (by omega)
    have h6 := h.a i h3
    omega
  · have h5 := ge 0 (by omega)
    have h6 := h.a 0 (by omega)
    have h7 := h.z (by omega)
    omega
theorem KnS.new (h : KnS l key k PL NU m) (hl : gN l k < PL.length) (hn : key (gN l k) < NU.length) (hk : gN NU (key (gN l k)) = 0) : KnS l key (k + 1) (PL.set (gN l k) m) (NU.set (key (gN l k)) (m + 1)) (m + 1) := by
  have hkey : ∀ i, i < k → key (gN l i) ≠ key (gN l k) := fun i hi e => by
    have := h.a i hi
    rw [e, hk] at this
    omega
  have hle : ∀ x, gN NU x ≤ m := fun x => by
    by_cases hx : gN NU x = 0
    · omega
    · obtain ⟨i, h1, h2⟩ := h.c x hx
      have h3 := h.a i h1
      have h4 := h.b i h1
      rw [h2] at h3
      omega
  have g1 : ∀ i, i < k → gN (PL.set (gN l k) m) (gN l i) = gN PL (gN l i) := fun i hi => by
    rw [gN_sT hl, if_neg (fun e => hkey i hi (by rw [e]))]
  have g2 : ∀ i, i < k → gN (NU.set (key (gN l k)) (m + 1)) (key (gN l i)) = gN NU (key (gN l i)) := fun i hi => by
    rw [gN_sT hn, if_neg (hkey i hi)]
  have p1 : gN (PL.set (gN l k) m) (gN l k) = m := by rw [gN_sT hl, if_pos rfl]
  have p2 : gN (NU.set (key (gN l k)) (m + 1)) (key (gN l k)) = m + 1 := by rw [gN_sT hn, if_pos rfl]
  refine ⟨fun i hi => ?_, fun i hi => ?_, fun x hx => ?_, fun r hr => ?_, fun x y hx e => ?_, fun _ => ?_⟩
  · by_cases hik : i < k
    · rw [g1 i hik, g2 i hik]; exact h.a i hik
    · rw [show i = k by omega, p1, p2]
  · by_cases hik : i < k
    · rw [g1 i hik]; have := h.b i hik; omega
    · rw [show i = k by omega, p1]; omega
  · by_cases hxk : x = key (gN l k)
    · exact ⟨k, by omega, hxk.symm⟩
    · rw [gN_sT hn, if_neg hxk] at hx
      obtain ⟨i, h1, h2⟩ := h.c x hx
      exact ⟨i, by omega, h2⟩
  · by_cases hrm : r < m
    · obtain ⟨i, h1, h2⟩ := h.d r hrm
      exact ⟨i, by omega, by rw [g1 i h1]; exact h2⟩
    · exact ⟨k, by omega, by rw [p1]; omega⟩
  · rw [gN_sT hn, gN_sT hn] at e
    rw [gN_sT hn] at hx
    have hx1 := hle x
    have hy1 := hle y
    by_cases h1 : x = key (gN l k)
    · by_cases h2 : y = key (gN l k)
      · rw [h1, h2]
      · rw [if_pos h1, if_neg h2] at e; omega
    · by_cases h2 : y = key (gN l k)
      · rw [if_neg h1, if_pos h2] at e; omega
      · rw [if_neg h1, if_neg h2] at e
        rw [if_neg h1] at hx
        exact h.e x y hx e
  · by_cases hk0 : k = 0
    · subst hk0
      rw [p1]
      apply Classical.byContradiction
      intro hm
      obtain ⟨i, hi, _⟩ := h.d 0 (by omega)
      omega
    · rw [g1 0 (by omega)]; exact h.z (by omega)
theorem KnS.same (h : KnS l key k PL NU m) {i j : Nat} (hi : i < k) (hj : j < k) : gN PL (gN l i) = gN PL (gN l j) ↔ key (gN l i) = key (gN l j) := by
  have h1 := h.a i hi
  have h2 := h.a j hj
  refine ⟨fun e => h.e _ _ (by omega) (by omega), fun e => ?_⟩
  rw [e] at h1
  omega
theorem KnS.apart (h : KnS l key k PL NU m) (hk : k ≤ l.length) {D : DF} (hq : ∀ s ∈ l, ∀ t ∈ l, D.Eqv s t → key s = key t) : ∃ g : Nat → Nat, (∀ i, i < m → g i ∈ l) ∧ ∀ i, i < m → ∀ j, j < m → D.Eqv (g i) (g j) → i = j := by
  have hc : ∀ r, ∃ i, r < m → i < k ∧ gN PL (gN l i) = r := fun r => by
    by_cases hr : r < m
    · obtain ⟨i, hi⟩ := h.d r hr
      exact ⟨i, fun _ => hi⟩
    · exact ⟨0, fun h => absurd h hr⟩
  have mem : ∀ i, i < k → gN l i ∈ l := fun i hi => by rw [gN_lt (by omega)]; exact List.getElem_mem _
  refine ⟨fun r => gN l (hc r).choose, fun i hi => mem _ ((hc i).choose_spec hi).1, fun i hi j hj e => ?_⟩
  have h1 := (hc i).choose_spec hi
  have h2 := (hc j).choose_spec hj
  have := (h.same h1.1 h2.1).2 (hq _ (mem _ h1.1) _ (mem _ h2.1) e)
  rw [h1.2, h2.2] at this
  exact this
theorem mem_gN {l : List Nat} {s : Nat} (h : s ∈ l) : ∃ i, i < l.length ∧ gN l i = s := by
  obtain ⟨i, hi, e⟩ := List.getElem_of_mem h
  exact ⟨i, hi, by rw [gN_lt hi]; exact e⟩
end
theorem NumF.self {α : Type} {look : Nat → α} {N M : Nat} {num fst : Nat → Nat} (h : NumF look N num fst M) : NumF num N num fst M :=
  ⟨h.numlt, fun i hi => h.numfst _ (h.numlt i hi), h.fstlt, h.numfst, fun k hk i hi e => h.first k hk i hi ((h.same (by have := h.fstlt k hk; omega) (h.fstlt k hk)).1 e), h.inc⟩
def rowC (D : DF) (f one : Nat → Nat) (m c : Nat) : List Nat := (List.range m).map fun p => f (D.nx (one p) c)
theorem rowC_len (D : DF) (f one : Nat → Nat) (m c : Nat) : (rowC D f one m c).length = m := by simp [rowC]
theorem rowC_get (D : DF) (f one : Nat → Nat) (m c : Nat) {p : Nat} (h : p < m) : gN (rowC D f one m c) p = f (D.nx (one p) c) := by
  rw [gN_lt (by rw [rowC_len]; exact h)]
  simp [rowC]
def quD (D : DF) (one : Nat → Nat) (m : Nat) (R : List (List Nat)) (col : Nat → Nat) : DF := ⟨m, R.length, col, fun p c => gN (R.getD c []) p, fun p => D.ou (one p)⟩
structure QuS (D : DF) (l : List Nat) (f one : Nat → Nat) (m : Nat) (R : List (List Nat)) (col F : Nat → Nat) : Prop where
  rd : RdT D l
  m0 : 0 < m
  lt : ∀ s ∈ l, f s < m
  eqv : ∀ s ∈ l, ∀ t ∈ l, (f s = f t ↔ D.Eqv s t)
  z : f 0 = 0
  on : ∀ p, p < m → one p ∈ l ∧ f (one p) = p
  nf : NumF (fun b => rowC D f one m (D.bc b)) 256 col F R.length
  row : ∀ c, c < R.length → R.getD c [] = rowC D f one m (D.bc (F c))
section
variable {D : DF} {l : List Nat} {f one : Nat → Nat} {m : Nat} {R : List (List Nat)} {col F : Nat → Nat}
theorem QuS.nx (h : QuS D l f one m R col F) {p b : Nat} (hp : p < m) (hb : b < 256) : gN (R.getD (col b) []) p = f (D.step (one p) b) := by
  rw [h.row _ (h.nf.numlt b hb)]
  have : rowC D f one m (D.bc (F (col b))) = rowC D f one m (D.bc b) := h.nf.lk b hb
  rw [this, rowC_get _ _ _ _ _ hp]
  rfl
theorem QuS.step (h : QuS D l f one m R col F) {s b : Nat} (hs : s ∈ l) (hb : b < 256) : (quD D one m R col).step (f s) b = f (D.step s b) := by
  have hp := h.lt s hs
  show gN (R.getD (col b) []) (f s) = _
  rw [h.nx hp hb]
  obtain ⟨h1, h2⟩ := h.on _ hp
  exact (h.eqv _ (h.rd.cl _ h1 b hb) _ (h.rd.cl _ hs b hb)).2 (((h.eqv _ h1 _ hs).1 h2).step hb)
theorem QuS.ok (h : QuS D l f one m R col F) : (quD D one m R col).Ok := by
  refine ⟨h.m0, (h.nf.zero (by decide)).2, fun b hb => h.nf.numlt b hb, fun p hp c hc => ?_⟩
  have hc' : c < R.length := hc
  have hp : p < m := hp
  show gN (R.getD c []) p < m
  rw [h.row c hc', rowC_get _ _ _ _ _ hp]
  exact h.lt _ (h.rd.cl _ (h.on p hp).1 _ (h.nf.fstlt c hc'))
theorem QuS.run (h : QuS D l f one m R col F) : ∀ (t : List Nat) (s : Nat), s ∈ l → Txt t → (quD D one m R col).run (f s) t = f (D.run s t) ∧ D.run s t ∈ l
  | [], s, hs, _ => ⟨rfl, hs⟩
  | b :: t, s, hs, ht => by
    obtain ⟨hb, ht⟩ := ht.tail
    rw [DF.run_cons, DF.run_cons, h.step hs hb]
    exact h.run t _ (h.rd.cl s hs b hb) ht
theorem QuS.lab (h : QuS D l f one m R col F) {s : Nat} (hs : s ∈ l) {t : List Nat} (ht : Txt t) : (quD D one m R col).lab (f s) t = D.lab s t := by
  obtain ⟨h1, h2⟩ := h.run t s hs ht
  unfold DF.lab
  rw [h1]
  obtain ⟨h3, h4⟩ := h.on _ (h.lt _ h2)
  have := (h.eqv _ h3 _ h2).1 h4 [] Txt.nil
  exact this
theorem QuS.dist (h : QuS D l f one m R col F) {p q : Nat} (hp : p < m) (hq : q < m) (e : (quD D one m R col).Eqv p q) : p = q := by
  obtain ⟨h1, h2⟩ := h.on p hp
  obtain ⟨h3, h4⟩ := h.on q hq
  have : D.Eqv (one p) (one q) := fun u hu => by
    have := e u hu
    rw [← h2, ← h4, h.lab h1 hu, h.lab h3 hu] at this
    exact this
  have := (h.eqv _ h1 _ h3).2 this
  rw [h2, h4] at this
  exact this
theorem QuS.cold (h : QuS D l f one m R col F) {c d : Nat} (hc : c < R.length) (hd : d < R.length) (e : ∀ p, p < m → gN (R.getD c []) p = gN (R.getD d []) p) : c = d := by
  have e1 : rowC D f one m (D.bc (F c)) = rowC D f one m (D.bc (F d)) := by
    unfold rowC
    refine List.map_congr_left (fun p hp => ?_)
    have hp := List.mem_range.1 hp
    have := e p hp
    rw [h.row c hc, h.row d hd, rowC_get _ _ _ _ _ hp, rowC_get _ _ _ _ _ hp] at this
    exact this
  have := (h.nf.same (h.nf.fstlt c hc) (h.nf.fstlt d hd)).2 e1
  rw [h.nf.numfst c hc, h.nf.numfst d hd] at this
  exact this
end
theorem QuS.done {D : DF} {l : List Nat} {f one : Nat → Nat} {m : Nat} {R : List (List Nat)} {col fst St X : List Nat} (h : QuS D l f one m R (gN col) (gN fst)) (hf : fst.length = R.length) (rc : RcS (quD D one m R (gN col)) fst St X St.length 0) :
    (rcD (quD D one m R (gN col)) col fst St X).Right ∧ ∀ t, Txt t → (rcD (quD D one m R (gN col)) col fst St X).lab 0 t = D.lab 0 t := by
  have nf : NumF (quD D one m R (gN col)).bc 256 (gN col) (gN fst) fst.length := by rw [hf]; exact h.nf.self
  obtain ⟨hp, hl⟩ := rc.done nf
  have hlen : X.length = St.length * fst.length := by have := rc.len; omega
  have hst : ∀ s, s < St.length → ∀ b, b < 256 → (rcD (quD D one m R (gN col)) col fst St X).step s b < St.length ∧ gN St ((rcD (quD D one m R (gN col)) col fst St X).step s b) = (quD D one m R (gN col)).step (gN St s) b := fun s hs b hb => by
    have hcl := nf.numlt b hb
    have hq : s * fst.length + gN col b < X.length := by rw [hlen]; exact at_lt hs hcl
    obtain ⟨k1, k2⟩ := rc.nxt _ hq
    obtain ⟨e1, e2⟩ := div_at (i := s) hcl
    rw [e1, e2] at k2
    refine ⟨k1, k2.trans ?_⟩
    unfold DF.step
    rw [nf.lk b hb]
  have hrun : ∀ (t : List Nat) (s : Nat), Txt t → s < St.length → (rcD (quD D one m R (gN col)) col fst St X).run s t < St.length ∧ gN St ((rcD (quD D one m R (gN col)) col fst St X).run s t) = (quD D one m R (gN col)).run (gN St s) t := by
    intro t
    induction t with
    | nil => intro s _ hs; exact ⟨hs, rfl⟩
    | cons b t ih =>
      intro s ht hs
      obtain ⟨k1, k2⟩ := hst s hs b ht.tail.1
      rw [DF.run_cons, DF.run_cons, ← k2]
      exact ih _ ht.tail.2 k1
  have hlab : ∀ s, s < St.length → ∀ t, Txt t → (rcD (quD D one m R (gN col)) col fst St X).lab s t = (quD D one m R (gN col)).lab (gN St s) t := fun s hs t ht => by
    unfold DF.lab
    rw [← (hrun t s ht hs).2]
    rfl
  have h0 : ∀ t, Txt t → (quD D one m R (gN col)).lab 0 t = D.lab 0 t := fun t ht => by
    have := h.lab h.rd.z ht
    rw [h.z] at this
    exact this
  refine ⟨⟨hp.toOk, hp.reach, fun s hs t ht e => ?_, fun c hc d hd e => ?_, hp.colf, hp.cols, fun s hs c hc v h1 h2 => ?_⟩, fun t ht => by rw [hl t ht]; exact h0 t ht⟩
  · have hs' : s < St.length := hs
    have ht' : t < St.length := ht
    refine rc.nd s hs' t ht' (h.dist (rc.lt s hs') (rc.lt t ht') (fun u hu => ?_))
    rw [← hlab s hs' u hu, ← hlab t ht' u hu]
    exact e u hu
  · have hc' : c < fst.length := hc
    have hd' : d < fst.length := hd
    refine h.cold (by omega) (by omega) (fun p hp' => ?_)
    obtain ⟨h1, h2⟩ := h.on p hp'
    obtain ⟨t, t1, t2⟩ := h.rd.re _ h1
    obtain ⟨k1, k2⟩ := hrun t 0 t1 rc.s0.1
    have k3 := (h.run t 0 h.rd.z t1).1
    rw [h.z, t2, h2] at k3
    rw [rc.s0.2, k3] at k2
    have key : ∀ c, c < fst.length → gN (R.getD c []) p = gN St ((rcD (quD D one m R (gN col)) col fst St X).nx ((rcD (quD D one m R (gN col)) col fst St X).run 0 t) c) := fun c hc => by
      have hq : (rcD (quD D one m R (gN col)) col fst St X).run 0 t * fst.length + c < X.length := by rw [hlen]; exact at_lt k1 hc
      obtain ⟨j1, j2⟩ := rc.nxt _ hq
      obtain ⟨e1, e2⟩ := div_at (i := (rcD (quD D one m R (gN col)) col fst St X).run 0 t) hc
      rw [e1, e2, k2] at j2
      show _ = gN St (gN X _)
      rw [j2]
      show _ = gN (R.getD (gN col (gN fst c)) []) p
      rw [nf.numfst c hc]
    rw [key c hc', key d hd', e _ k1]
  · obtain ⟨s', c', k0, k1, k2, k3⟩ := hp.stf s hs c hc v h1 h2
    exact ⟨s', c', k1, k2, k3⟩
def gB (B : List Bool) (i : Nat) : Bool := B.getD i false
theorem gB_set {B : List Bool} {i j : Nat} {v : Bool} (h : i < B.length) : gB (B.set i v) j = if j = i then v else gB B j := by
  unfold gB
  simp only [List.getD_eq_getElem?_getD, List.getElem?_set]
  by_cases e : i = j
  · subst e; simp [h]
  · rw [if_neg e, if_neg (fun h => e h.symm)]
theorem gB_false (n i : Nat) : gB (List.replicate n false) i = false := by
  unfold gB
  by_cases h : i < n
  · simp [List.getD_eq_getElem?_getD, h]
  · rw [List.getD_eq_getElem?_getD, List.getElem?_eq_none (by simp; omega)]
    rfl
theorem gN_zero (n i : Nat) : gN (List.replicate n 0) i = 0 := by
  unfold gN
  by_cases h : i < n
  · simp [List.getD_eq_getElem?_getD, h]
  · rw [List.getD_eq_getElem?_getD, List.getElem?_eq_none (by simp; omega)]
    rfl
structure ClT (bc : Nat → Nat) (b : Nat) (B : List Bool) (L : List Nat) : Prop where
  bl : B.length = 256
  fl : ∀ c, c < 256 → (gB B c = true ↔ c ∈ L)
  al : ∀ b', b' < b → bc b' ∈ L
  of : ∀ c ∈ L, ∃ b', b' < b ∧ bc b' = c
  len : L.length ≤ b
section
variable {bc : Nat → Nat} {b : Nat} {B : List Bool} {L : List Nat}
theorem ClT.start : ClT bc 0 (List.replicate 256 false) [] := ⟨List.length_replicate, fun c _ => by rw [gB_false]; simp, fun b' h => by omega, fun c h => (by cases h), Nat.le_refl _⟩
theorem ClT.old (h : ClT bc b B L) (hc : bc b < 256) (hB : gB B (bc b) = true) : ClT bc (b + 1) B L := by
  have hm := (h.fl _ hc).1 hB
  refine ⟨h.bl, h.fl, fun b' hb => ?_, fun c h1 => ?_, by have := h.len; omega⟩
  · rcases Nat.lt_or_ge b' b with h1 | h1
    · exact h.al b' h1
    · rw [show b' = b by omega]; exact hm
  · obtain ⟨b', h2, h3⟩ := h.of c h1
    exact ⟨b', by omega, h3⟩
theorem ClT.new (h : ClT bc b B L) (hc : bc b < 256) : ClT bc (b + 1) (B.set (bc b) true) (L ++ [bc b]) := by
  have hbl := h.bl
  refine ⟨by rw [List.length_set]; exact hbl, fun c hc' => ?_, fun b' hb => ?_, fun c h1 => ?_, by have := h.len; simp; omega⟩
  · rw [gB_set (by omega)]
    by_cases e : c = bc b
    · rw [if_pos e]; simp [e]
    · rw [if_neg e, h.fl c hc']; simp [e]
  · rcases Nat.lt_or_ge b' b with h1 | h1
    · exact List.mem_append_left _ (h.al b' h1)
    · rw [show b' = b by omega]; simp
  · rcases List.mem_append.1 h1 with h1 | h1
    · obtain ⟨b', h2, h3⟩ := h.of c h1
      exact ⟨b', by omega, h3⟩
    · exact ⟨b, by omega, (List.mem_singleton.1 h1).symm⟩
end
structure RhS (D : DF) (C : List Nat) (B : List Bool) (l : List Nat) (i k : Nat) : Prop where
  bl : B.length = D.n
  nd : ∀ a, a < l.length → ∀ b, b < l.length → gN l a = gN l b → a = b
  lt : ∀ s ∈ l, s < D.n
  fl : ∀ s, s < D.n → (gB B s = true ↔ s ∈ l)
  z : 0 < l.length ∧ gN l 0 = 0
  re : ∀ s ∈ l, ∃ t, Txt t ∧ D.run 0 t = s
  dn : ∀ a, a < i → ∀ c ∈ C, D.nx (gN l a) c ∈ l
  dk : ∀ j, j < k → D.nx (gN l i) (gN C j) ∈ l
section
variable {D : DF} {C l : List Nat} {B : List Bool} {i k : Nat}
theorem gN_mem {l : List Nat} {i : Nat} (h : i < l.length) : gN l i ∈ l := by rw [gN_lt h]; exact List.getElem_mem h
theorem RhS.start (hn : 0 < D.n) : RhS D C ((List.replicate D.n false).set 0 true) [0] 0 0 := by
  refine ⟨by simp, fun _ ha _ hb _ => by simp at ha hb; omega, fun s hs => ?_, fun s hs => ?_, ⟨by simp, rfl⟩, fun s hs => ⟨[], Txt.nil, (List.mem_singleton.1 hs).symm⟩, fun _ ha => by omega, fun j hj => by omega⟩
  · rw [List.mem_singleton.1 hs]; exact hn
  · rw [gB_set (by simp; exact hn)]
    by_cases e : s = 0
    · rw [if_pos e]; simp [e]
    · rw [if_neg e, gB_false]; simp [e]
theorem RhS.few (h : RhS D C B l i k) : l.length ≤ D.n := pigeon D.n l.length (gN l) (fun _ ha => h.lt _ (gN_mem ha)) h.nd
theorem RhS.old (h : RhS D C B l i k) (hx : D.nx (gN l i) (gN C k) < D.n) (hB : gB B (D.nx (gN l i) (gN C k)) = true) : RhS D C B l i (k + 1) := by
  refine ⟨h.bl, h.nd, h.lt, h.fl, h.z, h.re, h.dn, fun j hj => ?_⟩
  rcases Nat.lt_or_ge j k with h1 | h1
  · exact h.dk j h1
  · rw [show j = k by omega]; exact (h.fl _ hx).1 hB
theorem RhS.new (h : RhS D C B l i k) (hi : i < l.length) (hC : ∃ b, b < 256 ∧ D.bc b = gN C k) (hx : D.nx (gN l i) (gN C k) < D.n) (hB : gB B (D.nx (gN l i) (gN C k)) = false) : RhS D C (B.set (D.nx (gN l i) (gN C k)) true) (l ++ [D.nx (gN l i) (gN C k)]) i (k + 1) := by
  obtain ⟨b, hb, eb⟩ := hC
  have hni : ¬ D.nx (gN l i) (gN C k) ∈ l := fun hm => by rw [(h.fl _ hx).2 hm] at hB; cases hB
  have hbl := h.bl
  obtain ⟨t, t1, t2⟩ := h.re _ (gN_mem hi)
  have hz := h.z
  have gi : gN (l ++ [D.nx (gN l i) (gN C k)]) i = gN l i := gN_left hi
  generalize hX : D.nx (gN l i) (gN C k) = x at *
  refine ⟨by rw [List.length_set]; exact hbl, fun a ha c hc e => ?_, fun s hs => ?_, fun s hs => ?_, ⟨by simp, by rw [gN_left hz.1]; exact hz.2⟩, fun s hs => ?_, fun a ha c hc => ?_, fun j hj => ?_⟩
  · have mem : ∀ a, a < l.length → ¬ gN l a = x := fun a ha e => hni (by rw [← e]; exact gN_mem ha)
    simp only [List.length_append, List.length_singleton] at ha hc
    by_cases h1 : a < l.length
    · by_cases h2 : c < l.length
      · rw [gN_left h1, gN_left h2] at e; exact h.nd a h1 c h2 e
      · rw [gN_left h1, show c = l.length by omega, gN_last] at e; exact absurd e (mem a h1)
    · by_cases h2 : c < l.length
      · rw [gN_left h2, show a = l.length by omega, gN_last] at e; exact absurd e.symm (mem c h2)
      · omega
  · rcases List.mem_append.1 hs with hs | hs
    · exact h.lt s hs
    · rw [List.mem_singleton.1 hs]; exact hx
  · rw [gB_set (by omega)]
    by_cases e : s = x
    · rw [if_pos e]; simp [e]
    · rw [if_neg e, h.fl s hs]; simp [e]
  · rcases List.mem_append.1 hs with hs | hs
    · exact h.re s hs
    · rw [List.mem_singleton.1 hs]
      refine ⟨t ++ [b], t1.snoc hb, ?_⟩
      rw [DF.run_snoc, t2]
      unfold DF.step
      rw [eb]; exact hX
  · have hai : a < l.length := by omega
    rw [gN_left hai]
    exact List.mem_append_left _ (h.dn a ha c hc)
  · rw [gi]
    rcases Nat.lt_or_ge j k with h1 | h1
    · exact List.mem_append_left _ (h.dk j h1)
    · rw [show j = k by omega, hX]; simp
theorem RhS.row (h : RhS D C B l i C.length) : RhS D C B l (i + 1) 0 := by
  refine ⟨h.bl, h.nd, h.lt, h.fl, h.z, h.re, fun a ha c hc => ?_, fun j hj => by omega⟩
  rcases Nat.lt_or_ge a i with h1 | h1
  · exact h.dn a h1 c hc
  · rw [show a = i by omega]
    obtain ⟨j, h2, h3⟩ := mem_gN hc
    rw [← h3]; exact h.dk j h2
theorem RhS.done (h : RhS D C B l l.length 0) (hC : ∀ b, b < 256 → D.bc b ∈ C) : RdT D l := by
  refine ⟨h.lt, by rw [← h.z.2]; exact gN_mem h.z.1, fun s hs b hb => ?_, h.re⟩
  obtain ⟨a, h1, h2⟩ := mem_gN hs
  rw [← h2]
  exact h.dn a h1 _ (hC b hb)
end
structure UnS (D : DF) (l C : List Nat) (k : Nat) (U : List Nat) : Prop where
  mem : ∀ c ∈ U, c ∈ C
  rep : ∀ j, j < k → ∃ i, i < U.length ∧ ∀ s ∈ l, D.nx s (gN C j) = D.nx s (gN U i)
  len : U.length ≤ k
section
variable {D : DF} {l C U : List Nat} {k : Nat}
theorem UnS.start : UnS D l C 0 [] := ⟨fun c h => (by cases h), fun j hj => by omega, Nat.le_refl _⟩
theorem UnS.old (h : UnS D l C k U) {i : Nat} (hi : i < U.length) (he : ∀ s ∈ l, D.nx s (gN C k) = D.nx s (gN U i)) : UnS D l C (k + 1) U := by
  refine ⟨h.mem, fun j hj => ?_, by have := h.len; omega⟩
  rcases Nat.lt_or_ge j k with h1 | h1
  · exact h.rep j h1
  · rw [show j = k by omega]; exact ⟨i, hi, he⟩
theorem UnS.new (h : UnS D l C k U) (hk : k < C.length) : UnS D l C (k + 1) (U ++ [gN C k]) := by
  refine ⟨fun c hc => ?_, fun j hj => ?_, by have := h.len; simp; omega⟩
  · rcases List.mem_append.1 hc with hc | hc
    · exact h.mem c hc
    · rw [List.mem_singleton.1 hc]; exact gN_mem hk
  · rcases Nat.lt_or_ge j k with h1 | h1
    · obtain ⟨i, h2, h3⟩ := h.rep j h1
      exact ⟨i, by simp; omega, fun s hs => by rw [gN_left h2]; exact h3 s hs⟩
    · rw [show j = k by omega]
      exact ⟨U.length, by simp, fun s _ => by rw [gN_last]⟩
theorem UnS.done (h : UnS D l C C.length U) (hC : ∀ b, b < 256 → D.bc b ∈ C) : ∀ b, b < 256 → ∃ j, j < U.length ∧ ∀ s ∈ l, D.nx s (D.bc b) = D.nx s (gN U j) := fun b hb => by
  obtain ⟨j, h1, h2⟩ := mem_gN (hC b hb)
  obtain ⟨i, h3, h4⟩ := h.rep j h1
  exact ⟨i, h3, fun s hs => by rw [← h2]; exact h4 s hs⟩
end
end Go.Proofs.YtdgoilkgplnhfaaGreat
namespace Go.Proofs.YtdgoilkgplnhfaaGreat
open Go.RowKit Go.Lib
def Lab (l : Int) : Prop := 0 ≤ l ∧ l ≤ 65535
instance (l : Int) : Decidable (Lab l) := inferInstanceAs (Decidable (0 ≤ l ∧ l ≤ 65535))
set_option maxRecDepth 100000 in
theorem isLabel_any (l : Int) (w : World) : Calls Tryz.prog 64 #[.int .i64 l] w fun e w' => e = .returned (.bool (decide (Lab l))) ∧ w' = w := by
  by_cases h1 : 0 ≤ l
  · by_cases h2 : l ≤ 65535
    · have HE : Hid (decide (Lab l) = true) := decide_eq_true ⟨h1, h2⟩
      go_enter Tryz.func64, Tryz.ntmps64
      go_wp2
      go_ret
      exact ⟨by rw [HE.out]; first | rfl | simp_all, rfl⟩
    · have HE : Hid (decide (Lab l) = false) := decide_eq_false (fun h => h2 h.2)
      go_enter Tryz.func64, Tryz.ntmps64
      go_wp2
      go_ret
      exact ⟨by rw [HE.out]; first | rfl | simp_all, rfl⟩
  · have HE : Hid (decide (Lab l) = false) := decide_eq_false (fun h => h1 h.1)
    go_enter Tryz.func64, Tryz.ntmps64
    go_wp2
    go_ret
    exact ⟨by rw [HE.out]; first | rfl | simp_all, rfl⟩
def uCells (L : List Nat) : List Value := L.map fun (n : Nat) => Value.int .u8 (n : Int)
def OwnU (w : World) (base : Nat) (v : Value) (L : List Nat) : Prop := w.ownsRow base 5 1 v L.length (uCells L)
theorem Tryz.info5n : (Tryz.prog.info? 5).map (fun i => (i.zero, i.size, i.bytes)) = some (some (.int .u8 0), 1, 1) := by kernel_rfl
theorem made_bytes (n : Nat) : (madeCells (Value.int .u8 0).cells (n * 1)).toList = uCells (List.replicate n 0) := by
  unfold uCells
  simp only [madeCells, Value.cells, List.map_replicate, Nat.mul_one]
  rw [List.eq_replicate_iff]
  refine ⟨by simp, fun b hb => ?_⟩
  simp only [Array.toList_map, List.mem_map] at hb
  obtain ⟨x, _, rfl⟩ := hb
  simp [Nat.mod_one]
theorem OwnU.slot {w : World} {base g n : Nat} {L : List Nat} (h : OwnU w base (.slice (some ⟨g, 0, none⟩) n n) L) {i : Nat} (hi : i < L.length) : n = L.length ∧ w.cell? ⟨g, i, none⟩ = some (.int .u8 (L[i] : Int)) ∧ w.frozen? ⟨g, i, none⟩ = false := by
  have hh : w.ownsRow base 5 1 (.slice (some ⟨g, 0, none⟩) n n) L.length (uCells L) := h
  have hn : n = L.length := by
    rcases hh.2 with ⟨e, e2⟩ | ⟨g', c', cur, e, _⟩
    · cases e
    · injection e with _ e2 _
  subst hn
  exact ⟨rfl, by rw [hh.cellAt i (by omega)]; simp [uCells, hi], hh.frozenAt _⟩
theorem OwnU.store {w : World} {base g n : Nat} {L : List Nat} (h : OwnU w base (.slice (some ⟨g, 0, none⟩) n n) L) (hn : n = L.length) (i x : Nat) : OwnU (w.setCell ⟨g, i, none⟩ (.int .u8 (x : Int))) base (.slice (some ⟨g, 0, none⟩) n n) (L.set i x) ∧ Kept (fun k => k = g) w (w.setCell ⟨g, i, none⟩ (.int .u8 (x : Int))) := by
  subst hn
  have hh : w.ownsRow base 5 1 (.slice (some ⟨g, 0, none⟩) L.length L.length) L.length (uCells L) := h
  obtain ⟨h1, h2⟩ := hh.stored i (.int .u8 (x : Int))
  refine ⟨?_, (kept_of_grown h2).mono (fun k hk => by injection hk with hk; exact hk.symm)⟩
  unfold OwnU
  rw [List.length_set, show uCells (L.set i x) = (uCells L).set i (.int .u8 (x : Int)) by simp [uCells, List.map_set]]
  exact h1
def btOf (L : List Nat) : By := L.map UInt8.ofNat
set_option maxRecDepth 100000 in
set_option maxHeartbeats 2000000 in
theorem byteColumns_any (ao : Option Addr) (cap : Nat) (L : List Nat) (w : World) (hl : L.length ≤ 4294967296) (h256 : ∀ x ∈ L, x < 256) (hat : NAt w ao L) :
    Calls Tryz.prog 48 #[.slice ao L.length cap] w fun e w' => e = .returned (.string ⟨(btOf L).toArray⟩) ∧ Below w.heap.size w w' := by
  obtain ⟨i5, hi5, hz50, hz51, hz52⟩ := info_parts Tryz.info5n
  have HAT := hide hat
  have HX := hide h256
  clear hat h256
  go_enter Tryz.func48, Tryz.ntmps48
  go_wp2_with (at_make; refine wpList_make_full _ rfl (.tmp 7) (.tmp 7) 89 rfl w.heap.size 5 i5 (.int .u8 0) 1 Tryz.underlying89 hi5 hz50 hz51 .i64 .i64 _ _ L.length rfl rfl rfl rfl (by rw [hz52]; omega) (by unfold maxLen; omega) (Nat.le_refl _) ?_; intro w2 h1 h2; have X2 := hide (below_of_grown h2); have O2 : Hid (OwnU w2 w.heap.size (.slice (some ⟨w.heap.size, 0, none⟩) L.length L.length) (L.take 0 ++ List.replicate (L.length - 0) 0)) := (by unfold Hid OwnU; rw [made_bytes] at h1; simpa using h1); clear h1 h2)
  go_loopg [11] (L.length + 1) (fun g x wr => ∃ i : Nat, x = .int .i64 i ∧ i ≤ L.length ∧ Hid (OwnU wr w.heap.size (.slice (some ⟨w.heap.size, 0, none⟩) L.length L.length) (L.take i ++ List.replicate (L.length - i) 0)) ∧ Hid (Below w.heap.size w wr) ∧ L.length - i < g)
  case atStart => exact ⟨0, rfl, by omega, O2, X2, by omega⟩
  case round =>
    obtain ⟨i, rfl, hi1, O, XB, hg⟩ := hrel
    have HG := hide hg
    clear hg O2 X2
    by_cases hi : i < L.length
    · have hi' : (i : Int) < (L.length : Int) := by omega
      obtain ⟨b, off, rfl, hb, c0⟩ := (HAT.out.below XB.out).get hi
      have hx := HX.out L[i] (List.getElem_mem hi)
      have hll : (L.take i ++ List.replicate (L.length - i) 0).length = L.length := by simp; omega
      obtain ⟨u1, q1, q2⟩ : ∃ u, wr.cell? ⟨w.heap.size, i, none⟩ = some u ∧ wr.frozen? ⟨w.heap.size, i, none⟩ = false := by obtain ⟨_, q1, q2⟩ := O.out.slot (i := i) (by omega); exact ⟨_, q1, q2⟩
      obtain ⟨o3, k3⟩ := O.out.store hll.symm i L[i]
      have e3 : (L.take i ++ List.replicate (L.length - i) 0).set i L[i] = L.take (i + 1) ++ List.replicate (L.length - (i + 1)) 0 := by
        rw [List.set_append_right _ _ (by simp; omega), List.take_succ_eq_append_getElem hi, List.append_assoc]
        congr 1
        obtain ⟨m, hm⟩ : ∃ m, L.length - i = m + 1 := ⟨L.length - i - 1, by omega⟩
        rw [hm, show L.length - (i + 1) = m by omega, show i - (L.take i).length = 0 by simp; omega]
        rfl
      rw [e3] at o3
      have O3 := hide o3
      have X3 := hide (XB.out.trans (k3.below XB.out.size (fun k hk => by omega)))
      have f1 : IntKind.u8.wrap ((L[i] : Nat) : Int) = ((L[i] : Nat) : Int) := by simp [IntKind.wrap, IntKind.bits, IntKind.signed]; omega
      generalize L[i] = y at *
      clear o3 k3 e3 hll
      go_wp2
      go_roundg (L.length - (i + 1) + 1)
      case measure => have := HG.out; omega
      case rel => exact ⟨i + 1, by first | rfl | go_num | (congr 1; omega), by omega, O3, X3, by omega⟩
    · have hi' : ¬ (i : Int) < (L.length : Int) := by omega
      obtain rfl : i = L.length := by omega
      have o4 : OwnU wr w.heap.size (.slice (some ⟨w.heap.size, 0, none⟩) L.length L.length) L := by have := O.out; rwa [Nat.sub_self, List.replicate_zero, List.append_nil, List.take_length] at this
      have hcv : (convert 89 9 (.slice (some ⟨w.heap.size, 0, none⟩) L.length L.length)).run Tryz.prog wr = .ok (.string (strOfNums (L.map fun b : Nat => (b : Int)))) wr := by
        refine run_convert_bytes_arg wr 89 5 Tryz.underlying89 Tryz.underlying5 w.heap.size 0 L.length L.length (L.map fun b : Nat => (b : Int)) (by simp) (fun i hi => ?_) 9 Tryz.underlying9
        rw [Nat.zero_add, (o4.slot hi).2.1]
        simp [List.getD_eq_getElem?_getD, hi]
      have HE : Hid (strOfNums (L.map fun b : Nat => (b : Int)) = ⟨(btOf L).toArray⟩) := by
        unfold Hid strOfNums btOf
        rw [List.map_map]
        rfl
      rw [HE.out] at hcv
      clear o4
      go_wp2
      go_ret
      exact ⟨rfl, XB.out⟩
end Go.Proofs.YtdgoilkgplnhfaaGreat
