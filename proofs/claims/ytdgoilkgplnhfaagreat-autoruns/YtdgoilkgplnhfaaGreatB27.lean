/-
  States that are sorted by their labels, put into parts of one label each. Of no program: no condition.
-/
import Derived.Test.YtdgoilkgplnhfaaGreatB21
import Derived.Test.YtdgoilkgplnhfaaGreatB26
import Derived.Test.YtdgoilkgplnhfaaGreatB22
namespace Go.Proofs.YtdgoilkgplnhfaaGreat

/-- All states, by rising labels. -/
structure LsS (n : Nat) (OU L : List Nat) : Prop where
  ll : L.length = n
  lt : ∀ i, i < n → gN L i < n
  nd : ∀ i, i < n → ∀ j, j < n → gN L i = gN L j → i = j
  on : ∀ s, s < n → ∃ i, i < n ∧ gN L i = s
  up : ∀ i j, i ≤ j → j < n → gN OU (gN L i) ≤ gN OU (gN L j)
/-- Those ahead of i are in parts. -/
structure ByS (n : Nat) (OU L : List Nat) (i : Nat) (P O : List Nat) (R : List Rm) : Prop where
  pl : P.length = n
  ol : O.length = n
  il : i ≤ n
  po : ∀ j, j < i → gN P (gN L j) = j ∧ gN O (gN L j) < R.length ∧ (gR R (gN O (gN L j))).a ≤ j ∧ j < (gR R (gN O (gN L j))).e
  rm : ∀ k, k < R.length → (gR R k).m = (gR R k).a ∧ (gR R k).a < (gR R k).e ∧ (gR R k).e ≤ i ∧ ∀ j, (gR R k).a ≤ j → j < (gR R k).e → gN O (gN L j) = k
  la : (i = 0 ∧ R.length = 0) ∨ (0 < i ∧ gN O (gN L (i - 1)) + 1 = R.length ∧ (gR R (R.length - 1)).e = i)
  lab : ∀ j, j < i → ∀ k, k < i → (gN O (gN L j) = gN O (gN L k) ↔ gN OU (gN L j) = gN OU (gN L k))
section
variable {n : Nat} {OU L P O : List Nat} {i : Nat} {R : List Rm}
theorem ByS.start (hp : P.length = n) (ho : O.length = n) : ByS n OU L 0 P O [] :=
  ⟨hp, ho, Nat.zero_le _, fun j hj => (by omega), fun k hk => (by cases hk), .inl ⟨rfl, rfl⟩, fun j hj => (by omega)⟩
theorem ByS.le (h : ByS n OU L i P O R) : R.length ≤ i :=
  pigeon i R.length (fun k => (gR R k).a) (fun k hk => by have := h.rm k hk; omega) (fun x hx y hy e => by
    have h1 := h.rm x hx
    have h2 := h.rm y hy
    have e' : (gR R x).a = (gR R y).a := e
    rw [← h1.2.2.2 _ (Nat.le_refl _) h1.2.1, ← h2.2.2.2 _ (Nat.le_refl _) h2.2.1, e'])
/-- A new part. -/
theorem ByS.new (h : ByS n OU L i P O R) (hL : LsS n OU L) (hi : i < n) (hd : i = 0 ∨ ¬ gN OU (gN L i) = gN OU (gN L (i - 1))) : ByS n OU L (i + 1) (P.set (gN L i) i) (O.set (gN L i) R.length) (R ++ [⟨i, i, i + 1⟩]) := by
  have hlt := hL.lt i hi
  have pS : ∀ t, gN (P.set (gN L i) i) t = if t = gN L i then i else gN P t := fun t => gN_set P (by rw [h.pl]; exact hlt) i t
  have oS : ∀ t, gN (O.set (gN L i) R.length) t = if t = gN L i then R.length else gN O t := fun t => gN_set O (by rw [h.ol]; exact hlt) _ t
  have hne : ∀ j, j < i → ¬ gN L j = gN L i := fun j hj e => by have := hL.nd j (by omega) i hi e; omega
  have hlen : (R ++ [(⟨i, i, i + 1⟩ : Rm)]).length = R.length + 1 := by simp
  have rL : gR (R ++ [(⟨i, i, i + 1⟩ : Rm)]) R.length = ⟨i, i, i + 1⟩ := gR_last R _
  have hun : ∀ j, j < i → ¬ gN OU (gN L j) = gN OU (gN L i) := fun j hj e => by
    rcases hd with hd | hd
    · omega
    · have a1 := hL.up j (i - 1) (by omega) (by omega)
      have a2 := hL.up (i - 1) i (by omega) hi
      omega
  refine ⟨by rw [List.length_set]; exact h.pl, by rw [List.length_set]; exact h.ol, hi, fun j hj => ?_, fun k hk => ?_, .inr ⟨by omega, ?_, ?_⟩, fun j hj k hk => ?_⟩
  · by_cases e : j = i
    · subst e
      rw [pS, oS, if_pos rfl, if_pos rfl, hlen, rL]
      exact ⟨rfl, Nat.lt_succ_self _, Nat.le_refl _, Nat.lt_succ_self _⟩
    · have hji : j < i := by omega
      have := h.po j hji
      rw [pS, oS, if_neg (hne j hji), if_neg (hne j hji), hlen, gR_left this.2.1]
      exact ⟨this.1, by omega, this.2.2⟩
  · rw [hlen] at hk
    by_cases e : k < R.length
    · have := h.rm k e
      rw [gR_left e]
      refine ⟨this.1, this.2.1, by omega, fun j h1 h2 => ?_⟩
      rw [oS, if_neg (hne j (by omega))]
      exact this.2.2.2 j h1 h2
    · obtain rfl : k = R.length := by omega
      rw [rL]
      refine ⟨rfl, Nat.lt_succ_self _, Nat.le_refl _, fun j h1 h2 => ?_⟩
      have h1 : i ≤ j := h1
      have h2 : j < i + 1 := h2
      obtain rfl : j = i := by omega
      rw [oS, if_pos rfl]
  · rw [Nat.add_sub_cancel, oS, if_pos rfl, hlen]
  · rw [hlen, Nat.add_sub_cancel, rL]
  · by_cases e1 : j = i
    · by_cases e2 : k = i
      · rw [e1, e2]; exact ⟨fun _ => rfl, fun _ => rfl⟩
      · have hki : k < i := by omega
        have := h.po k hki
        rw [e1, oS, oS, if_pos rfl, if_neg (hne k hki)]
        exact ⟨fun e => by omega, fun e => absurd e.symm (hun k hki)⟩
    · have hji : j < i := by omega
      have hpj := h.po j hji
      by_cases e2 : k = i
      · rw [e2, oS, oS, if_pos rfl, if_neg (hne j hji)]
        exact ⟨fun e => by omega, fun e => absurd e (hun j hji)⟩
      · rw [oS, oS, if_neg (hne j hji), if_neg (hne k (by omega))]
        exact h.lab j hji k (by omega)
/-- The same part. -/
theorem ByS.more (h : ByS n OU L i P O R) (hL : LsS n OU L) (hi : i < n) (h0 : 0 < i) (hd : gN OU (gN L i) = gN OU (gN L (i - 1))) {r : Rm} (hr : gR R (R.length - 1) = r) : 0 < R.length ∧ ByS n OU L (i + 1) (P.set (gN L i) i) (O.set (gN L i) (R.length - 1)) (R.set (R.length - 1) ⟨r.a, r.m, i + 1⟩) := by
  obtain ⟨hq1, hq2, hq3⟩ := h.la.resolve_left (fun e => by omega)
  have hlt := hL.lt i hi
  have hRl : R.length - 1 < R.length := by omega
  have hlast := h.rm _ hRl
  rw [hr] at hlast hq3
  have pS : ∀ t, gN (P.set (gN L i) i) t = if t = gN L i then i else gN P t := fun t => gN_set P (by rw [h.pl]; exact hlt) i t
  have oS : ∀ t, gN (O.set (gN L i) (R.length - 1)) t = if t = gN L i then R.length - 1 else gN O t := fun t => gN_set O (by rw [h.ol]; exact hlt) _ t
  have rS : ∀ k, gR (R.set (R.length - 1) ⟨r.a, r.m, i + 1⟩) k = if k = R.length - 1 then ⟨r.a, r.m, i + 1⟩ else gR R k := fun k => gR_set R hRl _ k
  have hne : ∀ j, j < i → ¬ gN L j = gN L i := fun j hj e => by have := hL.nd j (by omega) i hi e; omega
  refine ⟨by omega, by rw [List.length_set]; exact h.pl, by rw [List.length_set]; exact h.ol, hi, fun j hj => ?_, fun k hk => ?_, .inr ⟨by omega, ?_, ?_⟩, fun j hj k hk => ?_⟩
  · by_cases e : j = i
    · subst e
      rw [pS, oS, if_pos rfl, if_pos rfl, List.length_set, rS, if_pos rfl]
      exact ⟨rfl, hRl, by show r.a ≤ j; omega, Nat.lt_succ_self _⟩
    · have hji : j < i := by omega
      have := h.po j hji
      rw [pS, oS, if_neg (hne j hji), if_neg (hne j hji), List.length_set, rS]
      refine ⟨this.1, this.2.1, ?_⟩
      by_cases e2 : gN O (gN L j) = R.length - 1
      · rw [if_pos e2]
        have h3 := this.2.2
        rw [e2, hr] at h3
        show r.a ≤ j ∧ j < i + 1
        omega
      · rw [if_neg e2]; exact this.2.2
  · rw [List.length_set] at hk
    rw [rS]
    by_cases e : k = R.length - 1
    · rw [if_pos e]
      refine ⟨hlast.1, by show r.a < i + 1; omega, Nat.le_refl _, fun j h1 h2 => ?_⟩
      have h1 : r.a ≤ j := h1
      have h2 : j < i + 1 := h2
      rw [oS]
      by_cases e2 : j = i
      · rw [e2, if_pos rfl, e]
      · rw [if_neg (hne j (by omega)), e]
        exact hlast.2.2.2 j h1 (by omega)
    · rw [if_neg e]
      have := h.rm k hk
      refine ⟨this.1, this.2.1, by omega, fun j h1 h2 => ?_⟩
      rw [oS, if_neg (hne j (by omega))]
      exact this.2.2.2 j h1 h2
  · rw [Nat.add_sub_cancel, oS, if_pos rfl, List.length_set]; omega
  · rw [List.length_set, rS, if_pos rfl]
  · have hl1 : gN O (gN L (i - 1)) = R.length - 1 := by omega
    have key : ∀ j, j < i → (gN O (gN L j) = R.length - 1 ↔ gN OU (gN L j) = gN OU (gN L i)) := fun j hj => by rw [← hl1, hd]; exact h.lab j hj (i - 1) (by omega)
    by_cases e1 : j = i
    · by_cases e2 : k = i
      · rw [e1, e2]; exact ⟨fun _ => rfl, fun _ => rfl⟩
      · have hki : k < i := by omega
        rw [e1, oS, oS, if_pos rfl, if_neg (hne k hki)]
        exact ⟨fun e => ((key k hki).1 e.symm).symm, fun e => ((key k hki).2 e.symm).symm⟩
    · have hji : j < i := by omega
      by_cases e2 : k = i
      · rw [e2, oS, oS, if_pos rfl, if_neg (hne j hji)]
        exact key j hji
      · rw [oS, oS, if_neg (hne j hji), if_neg (hne k (by omega))]
        exact h.lab j hji k (by omega)
theorem ByS.fin (h : ByS n OU L n P O R) (hL : LsS n OU L) : PtS n L P O R ∧ Plain R ∧ ∀ s, s < n → ∀ t, t < n → (gN O s = gN O t ↔ gN OU s = gN OU t) := by
  refine ⟨⟨hL.ll, h.pl, h.ol, fun i hi => ⟨hL.lt i hi, (h.po i hi).1⟩, fun s hs => ?_, fun s hs => ?_, fun k hk => ?_, fun k hk => (h.rm k hk).2.2.2⟩, fun k hk => (h.rm k hk).1, fun s hs t ht => ?_⟩
  · obtain ⟨i, hi, e⟩ := hL.on s hs
    have := (h.po i hi).1
    rw [e] at this
    rw [this]; exact ⟨hi, e⟩
  · obtain ⟨i, hi, e⟩ := hL.on s hs
    have := h.po i hi
    rw [e] at this
    rw [this.1]; exact this.2
  · have := h.rm k hk
    omega
  · obtain ⟨i, hi, rfl⟩ := hL.on s hs
    obtain ⟨j, hj, rfl⟩ := hL.on t ht
    exact h.lab i hi j hj
end
end Go.Proofs.YtdgoilkgplnhfaaGreat
/-
  What stands while states are put into parts by their labels. Of the program its types alone: no condition.
-/
namespace Go.Proofs.YtdgoilkgplnhfaaGreat
open Go.RowKit Go.Lib

theorem rCells_end (R : List Rm) (k : Nat) (h : k < R.length) (m : Nat) : (rCells R).set (k * 3 + 2) (.int .i64 (m : Int)) = rCells (R.set k ⟨(gR R k).a, (gR R k).m, m⟩) := by
  refine List.ext_getElem? (fun i => ?_)
  rw [List.getElem?_set]
  by_cases hi : i < R.length * 3
  · obtain ⟨q, j, hj, rfl⟩ : ∃ q j, j < 3 ∧ i = q * 3 + j := ⟨i / 3, i % 3, by omega, by omega⟩
    rw [rCells_get (R.set k _) q j (by rw [List.length_set]; omega) hj, gR_set R h, rCells_length]
    by_cases e : q = k
    · subst e
      rw [if_pos rfl]
      match j, hj with
      | 0, _ => rw [if_neg (by omega), rCells_get _ _ _ h (by omega)]; simp [rmC]
      | 1, _ => rw [if_neg (by omega), rCells_get _ _ _ h (by omega)]; simp [rmC]
      | 2, _ => rw [if_pos rfl, if_pos (by omega)]; simp [rmC]
    · rw [if_neg (by omega), if_neg e, rCells_get _ _ _ (by omega) hj]
  · rw [if_neg (by omega), List.getElem?_eq_none (by rw [rCells_length]; omega), List.getElem?_eq_none (by rw [rCells_length, List.length_set]; omega)]
section
variable {w w' : World} {base pb : Nat} {lv pv ov rv : Value} {L P O : List Nat} {R : List Rm}
/-- A room's end. -/
theorem PrM.ends {rg cr : Nat} (h : PrM w base pb lv pv ov (.slice (some ⟨rg, 0, none⟩) R.length cr) L P O R) {k : Nat} (hk : k < R.length) (m : Nat) :
    PrM (w.setCell ⟨rg, k * 3 + 2, none⟩ (.int .i64 (m : Int))) base pb lv pv ov (.slice (some ⟨rg, 0, none⟩) R.length cr) L P O (R.set k ⟨(gR R k).a, (gR R k).m, m⟩) ∧ Kept (fun b => b = rg) w (w.setCell ⟨rg, k * 3 + 2, none⟩ (.int .i64 (m : Int))) := by
  have oR : w.ownsRow base 164 3 (.slice (some ⟨rg, 0, none⟩) R.length cr) R.length (rCells R) := h.own
  obtain ⟨o1, h2⟩ := oR.stored (k * 3 + 2) (.int .i64 (m : Int))
  have k5 : Kept (fun b => b = rg) w (w.setCell ⟨rg, k * 3 + 2, none⟩ (.int .i64 (m : Int))) := (kept_of_grown h2).mono (fun b hb => by injection hb with hb; exact hb.symm)
  have o5 : OwnR (w.setCell ⟨rg, k * 3 + 2, none⟩ (.int .i64 (m : Int))) base (.slice (some ⟨rg, 0, none⟩) R.length cr) (R.set k ⟨(gR R k).a, (gR R k).m, m⟩) := by
    unfold OwnR
    rw [List.length_set, ← rCells_end R k hk]
    exact o1
  refine ⟨⟨(k5.block pb (lt_of_block h.blk) (fun e => h.notpb rg (.inr (.inr (.inr rfl))) e.symm)).trans h.blk, h.ge, h.rws.kept k5 (fun j hj b hb e => ?_), o5⟩, k5⟩
  exact own_ne (show w.ownsRow base 3 1 _ _ (nCells _) from h.rws.own j hj) oR (by decide) b hb (by rw [e]; rfl)
/-- A number of the list. -/
theorem PrM.setL {lg nl cl : Nat} (h : PrM w base pb (.slice (some ⟨lg, 0, none⟩) nl cl) pv ov rv L P O R) (i x : Nat) :
    PrM (w.setCell ⟨lg, i, none⟩ (.int .i64 (x : Int))) base pb (.slice (some ⟨lg, 0, none⟩) nl cl) pv ov rv (L.set i x) P O R := by
  have oL : w.ownsRow base 3 1 (.slice (some ⟨lg, 0, none⟩) nl cl) L.length (nCells L) := h.rws.own 0 (by simp)
  have oR : w.ownsRow base 164 3 rv R.length (rCells R) := h.own
  have k5 : Kept (fun b => b = lg) w (w.setCell ⟨lg, i, none⟩ (.int .i64 (x : Int))) := (Kept.refl (fun b => b = lg) w).setCell (p := ⟨lg, i, none⟩) rfl _
  exact ⟨(k5.block pb (lt_of_block h.blk) (fun e => h.notpb lg (.inl rfl) e.symm)).trans h.blk, h.ge, h.rws.store (i := 0) (by simp) rfl i x, own_kept h.own k5 (fun b hb e => own_ne oR oL (by decide) b hb (by rw [e]; rfl))⟩
/-- A place, and a part. -/
theorem PrM.setPO {pg np cp og no co : Nat} (h : PrM w base pb lv (.slice (some ⟨pg, 0, none⟩) np cp) (.slice (some ⟨og, 0, none⟩) no co) rv L P O R) (s i k : Nat) :
    PrM ((w.setCell ⟨pg, s, none⟩ (.int .i64 (i : Int))).setCell ⟨og, s, none⟩ (.int .i64 (k : Int))) base pb lv (.slice (some ⟨pg, 0, none⟩) np cp) (.slice (some ⟨og, 0, none⟩) no co) rv L (P.set s i) (O.set s k) R := by
  have oP : w.ownsRow base 3 1 (.slice (some ⟨pg, 0, none⟩) np cp) P.length (nCells P) := h.rws.own 1 (by simp)
  have oO : w.ownsRow base 3 1 (.slice (some ⟨og, 0, none⟩) no co) O.length (nCells O) := h.rws.own 2 (by simp)
  have oR : w.ownsRow base 164 3 rv R.length (rCells R) := h.own
  have k5 : Kept (fun b => b = pg ∨ b = og) w ((w.setCell ⟨pg, s, none⟩ (.int .i64 (i : Int))).setCell ⟨og, s, none⟩ (.int .i64 (k : Int))) := ((Kept.refl (fun b => b = pg ∨ b = og) w).setCell (p := ⟨pg, s, none⟩) (.inl rfl) _).setCell (p := ⟨og, s, none⟩) (.inr rfl) _
  refine ⟨(k5.block pb (lt_of_block h.blk) (fun e => ?_)).trans h.blk, h.ge, (h.rws.store (i := 1) (by simp) rfl s i).store (i := 2) (by simp) rfl s k, own_kept h.own k5 (fun b hb e => ?_)⟩
  · rcases e with e | e
    · exact h.notpb pg (.inr (.inl rfl)) e.symm
    · exact h.notpb og (.inr (.inr (.inl rfl))) e.symm
  · rcases e with e | e
    · exact own_ne oR oP (by decide) b hb (by rw [e]; rfl)
    · exact own_ne oR oO (by decide) b hb (by rw [e]; rfl)
end
theorem four_alloc (V : World) (a b c d : Array Value) (T T' T2 T3 : TypeId) : Below V.heap.size V ((((V.alloc (.cells a T)).alloc (.cells b T')).alloc (.cells c T2)).alloc (.cells d T3)).drew ∧ ((((V.alloc (.cells a T)).alloc (.cells b T')).alloc (.cells c T2)).alloc (.cells d T3)).drew.heap[V.heap.size]? = some (.cells a T (0, 0)) ∧ ((((V.alloc (.cells a T)).alloc (.cells b T')).alloc (.cells c T2)).alloc (.cells d T3)).drew.heap[V.heap.size + 1]? = some (.cells b T' (0, 0)) ∧ ((((V.alloc (.cells a T)).alloc (.cells b T')).alloc (.cells c T2)).alloc (.cells d T3)).drew.heap[V.heap.size + 1 + 1]? = some (.cells c T2 (0, 0)) ∧ ((((V.alloc (.cells a T)).alloc (.cells b T')).alloc (.cells c T2)).alloc (.cells d T3)).drew.heap[V.heap.size + 1 + 1 + 1]? = some (.cells d T3 (0, 0)) := by
  obtain ⟨x, b1, b2, hs⟩ := two_alloc' V a b T T'
  generalize (V.alloc (.cells a T)).alloc (.cells b T') = wa at *
  obtain ⟨y, c1, c2, hs2⟩ := two_alloc' wa c d T2 T3
  rw [hs] at c1 c2
  exact ⟨(bt x y (Nat.le_refl _)).drew, (y.block _ (lt_of_block b1)).trans b1, (y.block _ (lt_of_block b2)).trans b2, c1, c2⟩
theorem PrM.mk4 {w0 V wx : World} {n pb lg pg og : Nat} (hm : n ≤ maxLen) (x0 : w0.heap.size ≤ V.heap.size) (h1 : wx.heap[pb]? = some (.cells #[.slice (some ⟨lg, 0, none⟩) n n, .slice (some ⟨pg, 0, none⟩) n n, .slice (some ⟨og, 0, none⟩) n n, .slice none 0 0] 161 (0, 0))) (h2 : wx.heap[lg]? = some (.cells (madeCells #[.int .i64 0] n) 3 (0, 0))) (h3 : wx.heap[pg]? = some (.cells (madeCells #[.int .i64 0] n) 3 (0, 0))) (h4 : wx.heap[og]? = some (.cells (madeCells #[.int .i64 0] n) 3 (0, 0))) (n1 : ¬ lg = pg) (n2 : ¬ lg = og) (n3 : ¬ pg = og) (g1 : V.heap.size ≤ pb) (g2 : V.heap.size ≤ lg) (g3 : V.heap.size ≤ pg) (g4 : V.heap.size ≤ og) :
    PrM wx w0.heap.size pb (.slice (some ⟨lg, 0, none⟩) n n) (.slice (some ⟨pg, 0, none⟩) n n) (.slice (some ⟨og, 0, none⟩) n n) (.slice none 0 0) (List.replicate n 0) (List.replicate n 0) (List.replicate n 0) [] := by
  refine ⟨h1, by omega, ⟨fun j hj => ?_, fun j hj k hk hne b hb hb2 => ?_⟩, World.ownsRow_nil _ _ _ _⟩
  · match j, hj with
    | 0, _ => exact made_own wx w0.heap.size lg n (by omega) hm h2
    | 1, _ => exact made_own wx w0.heap.size pg n (by omega) hm h3
    | 2, _ => exact made_own wx w0.heap.size og n (by omega) hm h4
  · match j, hj, k, hk with
    | 0, _, 0, _ => exact hne rfl
    | 0, _, 1, _ => exact n1 (by have a : lg = b := Option.some.inj hb; have c : pg = b := Option.some.inj hb2; omega)
    | 0, _, 2, _ => exact n2 (by have a : lg = b := Option.some.inj hb; have c : og = b := Option.some.inj hb2; omega)
    | 1, _, 0, _ => exact n1 (by have a : pg = b := Option.some.inj hb; have c : lg = b := Option.some.inj hb2; omega)
    | 1, _, 1, _ => exact hne rfl
    | 1, _, 2, _ => exact n3 (by have a : pg = b := Option.some.inj hb; have c : og = b := Option.some.inj hb2; omega)
    | 2, _, 0, _ => exact n2 (by have a : og = b := Option.some.inj hb; have c : lg = b := Option.some.inj hb2; omega)
    | 2, _, 1, _ => exact n3 (by have a : og = b := Option.some.inj hb; have c : pg = b := Option.some.inj hb2; omega)
    | 2, _, 2, _ => exact hne rfl
end Go.Proofs.YtdgoilkgplnhfaaGreat
/-
  slices.SortFunc at the list of states: by rising labels. Condition: at most 65536 states.
-/
namespace Go.Proofs.YtdgoilkgplnhfaaGreat
open Go.RowKit Go.Lib Go.Sort

theorem cmpInt_lt (a b : Int) : (Lib.compareInt a b < 0 ↔ a < b) ∧ (Lib.compareInt a b = 0 ↔ a = b) := by
  unfold Lib.compareInt
  by_cases h1 : a < b
  · simp [h1]; omega
  · by_cases h2 : b < a
    · simp [h1, h2]; omega
    · simp [h1, h2]; omega
theorem cfO_lt (OU : List Nat) (x y : Nat) : cfO OU x y < 0 ↔ (gN OU x < gN OU y ∨ (gN OU x = gN OU y ∧ x < y)) := by
  unfold cfO orZ
  have h1 := cmpInt_lt (gN OU x : Int) (gN OU y : Int)
  have h2 := cmpInt_lt (x : Int) (y : Int)
  by_cases e : Lib.compareInt (gN OU x : Int) (gN OU y : Int) = 0
  · rw [if_pos e, h2.1]
    have := h1.2.1 e
    omega
  · rw [if_neg e, h1.1]
    have : ¬ (gN OU x : Int) = (gN OU y : Int) := fun h => e (h1.2.2 h)
    omega
theorem ltO (n : Nat) (OU : List Nat) (x y : Fin n) : ltOf (fun x y : Fin n => cfO OU x.val y.val) x y = decide (gN OU x.val < gN OU y.val ∨ (gN OU x.val = gN OU y.val ∧ x.val < y.val)) := by
  unfold ltOf
  simp only [cfO_lt]
theorem swoO (n : Nat) (OU : List Nat) : SWO (ltOf fun x y : Fin n => cfO OU x.val y.val) where
  irrefl x := by rw [ltO]; simp
  trans x y z h1 h2 := by rw [ltO] at *; simp only [decide_eq_true_eq] at *; omega
  ntrans x y z h1 h2 := by rw [ltO] at *; simp only [decide_eq_false_iff_not] at *; omega
section
variable {α : Type} [Inhabited α]
theorem heap_sorted (enc : α → Value) {w : World} {g n : Nat} {os : Array Obj} {cur : Array Value} {e : TypeId} {fr : Nat × Nat} (d : Array α) (hb : w.heap[g]? = some (.cells cur e fr)) : (sortWorld enc w g 0 n d os).heap[g]? = some (.cells (putCells enc 0 d cur) e fr) := by
  have hg : g < w.heap.size := (Array.getElem?_eq_some_iff.1 hb).1
  unfold sortWorld
  rw [heap_grow_old _ _ (by simpa using hg)]
  simp [putRow, mapBlock, Sort.ahead, Array.getElem?_modify, hb, onCells]
theorem kept_sorted (enc : α → Value) {w : World} {g n : Nat} {os : Array Obj} (d : Array α) : Kept (fun b => b = g) w (sortWorld enc w g 0 n d os) := by
  refine ⟨rfl, rfl, rfl, by simp [sortWorld], fun k hk hne => ?_⟩
  unfold sortWorld
  rw [heap_grow_old _ _ (by simpa using hk)]
  have : g ≠ k := fun e => hne e.symm
  simp [putRow, mapBlock, Sort.ahead, Array.getElem?_modify, this]
theorem take_put (enc : α → Value) (cur : Array Value) (d : Array α) (h : d.size ≤ cur.size) : (putCells enc 0 d cur).toList.take d.size = d.toList.map enc := by
  apply List.ext_getElem?
  intro j
  by_cases hj : j < d.size
  · rw [List.getElem?_take_of_lt hj, Array.getElem?_toList]
    simp [putCells, hj, show j < cur.size by omega]
  · rw [List.getElem?_take_eq_none (by omega), List.getElem?_eq_none (by simp; omega)]
end
theorem enters136 : ∀ args w, (callFunc 136 args).run Tryz.prog w = .ok (.enter 136 args) w := enters_of Tryz.func136 (by kernel_rfl) rfl
set_option maxRecDepth 100000 in
theorem sortO_any {n : Nat} (w : World) (base pb lg lc cb oc : Nat) (oa : Option Addr) (pv ov rv : Value) (L P O OU : List Nat) (R : List Rm) (h : PrM w base pb (.slice (some ⟨lg, 0, none⟩) n lc) pv ov rv L P O R) (hl : L.length = n) (hL : ∀ j, j < n → gN L j = j) (hou : OU.length = n) (hn0 : 0 < n) (hn : n ≤ 65536) (hcb : w.cell? ⟨cb, 0, none⟩ = some (.slice oa OU.length oc)) (hcl : cb < w.heap.size) (hcn : ¬ cb = lg) (hat : NAt w oa OU) (hon : ∀ b off, oa = some ⟨b, off, none⟩ → ¬ b = lg) :
    Calls Tryz.prog 135 #[.slice (some ⟨lg, 0, none⟩) n lc, .func (.func 136) #[] #[.pointer (some ⟨cb, 0, none⟩)]] w fun e w' => e = .returned (.tuple #[]) ∧ ∃ L', LsS n OU L' ∧ PrM w' base pb (.slice (some ⟨lg, 0, none⟩) n lc) pv ov rv L' P O R ∧ Kept (fun b => b = lg) w w' := by
  have inst : Inhabited (Fin n) := ⟨⟨0, hn0⟩⟩
  have oL : w.ownsRow base 3 1 (.slice (some ⟨lg, 0, none⟩) n lc) L.length (nCells L) := h.rws.own 0 (by simp)
  rw [hl] at oL
  have hlg := (World.ownsRow.lt oL lg rfl)
  obtain ⟨cur, hcur, hcs, hc1, hc2⟩ : ∃ cur, w.heap[lg]? = some (.cells cur 3 (0, 0)) ∧ cur.size = lc ∧ n ≤ lc ∧ lc ≤ maxLen := by
    rcases oL.2 with ⟨e, _⟩ | ⟨g', cap', cur, hv, _, h3, h4, h5, h6, _⟩
    · cases e
    · injection hv with e1 _ e3
      injection e1 with e1
      injection e1 with e1 _ _
      subst e1 e3
      exact ⟨cur, h3, by omega, h4, h5⟩
  have hH : Holds (fun i : Fin n => Value.int .i64 ((i.val : Nat) : Int)) w lg 0 (Array.ofFn (fun i : Fin n => i)) := by
    intro j hj
    have hj' : j < n := by simpa using hj
    refine ⟨?_, oL.frozenAt _⟩
    rw [Nat.zero_add, oL.cellAt j (by omega), nCells_get L j (by omega), ← gN_lt (show j < L.length by omega), hL j hj']
    simp [hj']
  have hcmp : CmpLays1 Tryz.prog 136 #[.pointer (some ⟨cb, 0, none⟩)] (fun i : Fin n => Value.int .i64 ((i.val : Nat) : Int)) (fun x y : Fin n => cfO OU x.val y.val) lg 0 (Array.ofFn (fun i : Fin n => i)).size w := fun m os dk _ x y => by
    have k := kept_sorted (fun i : Fin n => Value.int .i64 ((i.val : Nat) : Int)) (w := w) (g := lg) (n := m) (os := os) dk
    exact cmp136_any oa oc cb x.val y.val OU _ (by rw [hou]; exact x.isLt) (by rw [hou]; exact y.isLt) ((k.cell (p := ⟨cb, 0, none⟩) hcl hcn).trans hcb) (Nat.lt_of_lt_of_le hcl k.size) (hat.kept k hon)
  have hcon := Any.slices_SortFunc Tryz.sortN (fun i : Fin n => Value.int .i64 ((i.val : Nat) : Int)) (fun _ => rfl) (fun x y : Fin n => cfO OU x.val y.val) (swoO n OU) 136 #[.pointer (some ⟨cb, 0, none⟩)] lg 0 lc (Array.ofFn (fun i : Fin n => i)) w enters136 hcmp hH hlg.2 (by simp; omega)
  change Calls Tryz.prog 135 _ _ _ at hcon
  simp only [Array.size_ofFn] at hcon
  refine hcon.mono ?_
  rintro e w' ⟨rfl, d', m, os, hp, hs, rfl⟩
  have hsz : d'.size = n := by simpa using hp.1
  have hperm : d'.toList.Perm (List.finRange n) := by
    have h2 := hp.2.2
    have e0 : ∀ k, k = d'.size → (d'.extract 0 k).toList = d'.toList := fun k hk => by subst hk; simp
    have e1 := e0 n hsz.symm
    have e2 : ((Array.ofFn (fun i : Fin n => i)).extract 0 n).toList = List.finRange n := by
      simp [List.finRange]
      exact List.take_of_length_le (by simp)
    rw [e1, e2] at h2
    exact h2
  have hgL : ∀ i, (hi : i < n) → gN (d'.toList.map Fin.val) i = (d'[i]'(by omega)).val := fun i hi => by
    rw [gN_lt (by simp; omega)]
    simp
  have k := kept_sorted (fun i : Fin n => Value.int .i64 ((i.val : Nat) : Int)) (w := w) (g := lg) (n := m) (os := os) d'
  refine ⟨rfl, d'.toList.map Fin.val, ⟨by simp [hsz], fun i hi => ?_, fun i hi j hj e => ?_, fun s hs' => ?_, fun i j hij hj => ?_⟩, ?_, k⟩
  · rw [hgL i hi]; exact (d'[i]'(by omega)).isLt
  · rw [hgL i hi, hgL j hj] at e
    have hnd : d'.toList.Nodup := hperm.nodup_iff.2 (List.nodup_finRange n)
    have e' : d'[i]'(by omega) = d'[j]'(by omega) := Fin.ext e
    have hpw := List.pairwise_iff_getElem.1 hnd
    rcases Nat.lt_trichotomy i j with h1 | h1 | h1
    · exact absurd (by rw [Array.getElem_toList, Array.getElem_toList]; exact e') (hpw i j _ _ h1)
    · exact h1
    · exact absurd (by rw [Array.getElem_toList, Array.getElem_toList]; exact e'.symm) (hpw j i _ _ h1)
  · have : (⟨s, hs'⟩ : Fin n) ∈ d'.toList := hperm.mem_iff.2 (List.mem_finRange _)
    obtain ⟨i, hi, e⟩ := List.mem_iff_getElem.1 this
    have hi' : i < n := by simpa [hsz] using hi
    refine ⟨i, hi', ?_⟩
    rw [hgL i hi']
    have : d'[i]'(by omega) = ⟨s, hs'⟩ := by simpa using e
    rw [this]
  · by_cases e : i = j
    · rw [e]; exact Nat.le_refl _
    · have hlt := hs i j (Nat.zero_le _) (by omega) hj
      rw [ltO] at hlt
      simp only [decide_eq_false_iff_not] at hlt
      rw [hgL i (by omega), hgL j hj]
      have a1 : d'[i]! = d'[i]'(by omega) := by simp [show i < d'.size by omega]
      have a2 : d'[j]! = d'[j]'(by omega) := by simp [show j < d'.size by omega]
      rw [a1, a2] at hlt
      omega
  · have oL' : OwnN (sortWorld (fun i : Fin n => Value.int .i64 ((i.val : Nat) : Int)) w lg 0 m d' os) base (.slice (some ⟨lg, 0, none⟩) n lc) (d'.toList.map Fin.val) := by
      unfold OwnN
      have hc := heap_sorted (fun i : Fin n => Value.int .i64 ((i.val : Nat) : Int)) (n := m) (os := os) d' hcur
      refine ⟨by simp [nCells], .inr ⟨lg, lc, _, by simp [hsz], hlg.1, hc, by simp [hsz]; omega, hc2, by simp [putCells, hcs], ?_⟩⟩
      have := take_put (fun i : Fin n => Value.int .i64 ((i.val : Nat) : Int)) cur d' (by omega)
      simp only [List.length_map, Array.length_toList, Nat.mul_one]
      rw [this]
      simp [nCells]
    have oR : w.ownsRow base 164 3 rv R.length (rCells R) := h.own
    refine ⟨(k.block pb (lt_of_block h.blk) (fun e => h.notpb lg (.inl rfl) e.symm)).trans h.blk, h.ge, h.rws.upd (i := 0) (by simp) oL' k (fun b hb => by rw [hb]; rfl) (fun b hb => .inl hb), own_kept h.own k (fun b hb e => own_ne oR (show w.ownsRow base 3 1 (.slice (some ⟨lg, 0, none⟩) n lc) n (nCells L) from oL) (by decide) b hb (by rw [e]; rfl))⟩
end Go.Proofs.YtdgoilkgplnhfaaGreat
