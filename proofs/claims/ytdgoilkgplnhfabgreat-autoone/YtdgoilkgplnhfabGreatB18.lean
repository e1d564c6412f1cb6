/-
  States that are sorted by their labels, put into parts of one label each. Of no program: no condition.
-/
import Derived.Test.YtdgoilkgplnhfabGreatB17
namespace Go.Proofs.YtdgoilkgplnhfabGreat
structure LsS (n : Nat) (OU L : List Nat) : Prop where
  ll : L.length = n
  lt : ∀ i, i < n → gN L i < n
  nd : ∀ i, i < n → ∀ j, j < n → gN L i = gN L j → i = j
  on : ∀ s, s < n → ∃ i, i < n ∧ gN L i = s
  up : ∀ i j, i ≤ j → j < n → gN OU (gN L i) ≤ gN OU (gN L j)
structure ByS (n : Nat) (OU L : List Nat) (i : Nat) (P O : List Nat) (R : List Rm) : Prop where
  pl : P.length = n
  ol : O.length = n
  il : i ≤ n
  po : ∀ j, j < i → gN P (gN L j) = j ∧ gN O (gN L j) < R.length ∧ (gR R (gN O (gN L j))).a ≤ j ∧ j < (gR R (gN O (gN L j))).e
  rm : ∀ k, k < R.length → (gR R k).m = (gR R k).a ∧ (gR R k).a < (gR R k).e ∧ (gR R k).e ≤ i ∧ ∀ j, (gR R k).a ≤ j → j < (gR R k).e → gN O (gN L j) = k
  la : (i = 0 ∧ R.length = 0) ∨ (0 < i ∧ gN O (gN L (i - 1)) + 1 = R.length ∧ (gR R (R.length - 1)).e = i)
  lab : ∀ j, j < i → ∀ k, k < i → (gN O (gN L j) = gN O (gN L k) ↔ gN OU (gN L j) = gN OU (gN L k))
section
variable {n : Nat} {OU L P O : List Nat} {i : Nat} {R : List Rm}
theorem ByS.start (hp : P.length = n) (ho : O.length = n) : ByS n OU L 0 P O [] :=
  ⟨hp, ho, Nat.zero_le _, fun j hj => (by omega), fun k hk => (by cases hk), .inl ⟨rfl, rfl⟩, fun j hj => (by omega)⟩
theorem ByS.le (h : ByS n OU L i P O R) : R.length ≤ i :=
  pigeon i R.length (fun k => (gR R k).a) (fun k hk => by have := h.rm k hk; omega) (fun x hx y hy e => by
    have h1 := h.rm x hx
    have h2 := h.rm y hy
    have e' : (gR R x).a = (gR R y).a := e
    rw [← h1.2.2.2 _ (Nat.le_refl _) h1.2.1, ← h2.2.2.2 _ (Nat.le_refl _) h2.2.1, e'])
theorem ByS.new (h : ByS n OU L i P O R) (hL : LsS n OU L) (hi : i < n) (hd : i = 0 ∨ ¬ gN OU (gN L i) = gN OU (gN L (i - 1))) : ByS n OU L (i + 1) (P.set (gN L i) i) (O.set (gN L i) R.length) (R ++ [⟨i, i, i + 1⟩]) := by
  have hlt := hL.lt i hi
  have pS : ∀ t, gN (P.set (gN L i) i) t = if t = gN L i then i else gN P t := fun t => gN_set P (by rw [h.pl]; exact hlt) i t
  have oS : ∀ t, gN (O.set (gN L i) R.length) t = if t = gN L i then R.length else gN O t := fun t => gN_set O (by rw [h.ol]; exact hlt) _ t
  have hne : ∀ j, j < i → ¬ gN L j = gN L i := fun j hj e => by have := hL.nd j (by omega) i hi e; omega
  have hlen : (R ++ [(⟨i, i, i + 1⟩ : Rm)]).length = R.length + 1 := by simp
  have rL : gR (R ++ [(⟨i, i, i + 1⟩ : Rm)]) R.length = ⟨i, i, i + 1⟩ := gR_last R _
  have hun : ∀ j, j < i → ¬ gN OU (gN L j) = gN OU (gN L i) := fun j hj e => by
    rcases hd with hd | hd
    · omega
    · have a1 := hL.up j (i - 1) (by omega) (by omega)
      have a2 := hL.up (i - 1) i (by omega) hi
      omega
  refine ⟨by rw [List.length_set]; exact h.pl, by rw [List.length_set]; exact h.ol, hi, fun j hj => ?_, fun k hk => ?_, .inr ⟨by omega, ?_, ?_⟩, fun j hj k hk => ?_⟩
  · by_cases e : j = i
    · subst e
      rw [pS, oS, if_pos rfl, if_pos rfl, hlen, rL]
      exact ⟨rfl, Nat.lt_succ_self _, Nat.le_refl _, Nat.lt_succ_self _⟩
    · have hji : j < i := by omega
      have := h.po j hji
      rw [pS, oS, if_neg (hne j hji), if_neg (hne j hji), hlen, gR_left this.2.1]
      exact ⟨this.1, by omega, this.2.2⟩
  · rw [hlen] at hk
    by_cases e : k < R.length
    · have := h.rm k e
      rw [gR_left e]
      refine ⟨this.1, this.2.1, by omega, fun j h1 h2 => ?_⟩
      rw [oS, if_neg (hne j (by omega))]
      exact this.2.2.2 j h1 h2
    · obtain rfl : k = R.length := by omega
      rw [rL]
      refine ⟨rfl, Nat.lt_succ_self _, Nat.le_refl _, fun j h1 h2 => ?_⟩
      have h1 : i ≤ j := h1
      have h2 : j < i + 1 := h2
      obtain rfl : j = i := by omega
      rw [oS, if_pos rfl]
  · rw [Nat.add_sub_cancel, oS, if_pos rfl, hlen]
  · rw [hlen, Nat.add_sub_cancel, rL]
  · by_cases e1 : j = i
    · by_cases e2 : k = i
      · rw [e1, e2]; exact ⟨fun _ => rfl, fun _ => rfl⟩
      · have hki : k < i := by omega
        have := h.po k hki
        rw [e1, oS, oS, if_pos rfl, if_neg (hne k hki)]
        exact ⟨fun e => by omega, fun e => absurd e.symm (hun k hki)⟩
    · have hji : j < i := by omega
      have hpj := h.po j hji
      by_cases e2 : k = i
      · rw [e2, oS, oS, if_pos rfl, if_neg (hne j hji)]
        exact ⟨fun e => by omega, fun e => absurd e (hun j hji)⟩
      · rw [oS, oS, if_neg (hne j hji), if_neg (hne k (by omega))]
        exact h.lab j hji k (by omega)
theorem ByS.more (h : ByS n OU L i P O R) (hL : LsS n OU L) (hi : i < n) (h0 : 0 < i) (hd : gN OU (gN L i) = gN OU (gN L (i - 1))) {r : Rm} (hr : gR R (R.length - 1) = r) : 0 < R.length ∧ ByS n OU L (i + 1) (P.set (gN L i) i) (O.set (gN L i) (R.length - 1)) (R.set (R.length - 1) ⟨r.a, r.m, i + 1⟩) := by
  obtain ⟨hq1, hq2, hq3⟩ := h.la.resolve_left (fun e => by omega)
  have hlt := hL.lt i hi
  have hRl : R.length - 1 < R.length := by omega
  have hlast := h.rm _ hRl
  rw [hr] at hlast hq3
  have pS : ∀ t, gN (P.set (gN L i) i) t = if t = gN L i then i else gN P t := fun t => gN_set P (by rw [h.pl]; exact hlt) i t
  have oS : ∀ t, gN (O.set (gN L i) (R.length - 1)) t = if t = gN L i then R.length - 1 else gN O t := fun t => gN_set O (by rw [h.ol]; exact hlt) _ t
  have rS : ∀ k, gR (R.set (R.length - 1) ⟨r.a, r.m, i + 1⟩) k = if k = R.length - 1 then ⟨r.a, r.m, i + 1⟩ else gR R k := fun k => gR_set R hRl _ k
  have hne : ∀ j, j < i → ¬ gN L j = gN L i := fun j hj e => by have := hL.nd j (by omega) i hi e; omega
  refine ⟨by omega, by rw [List.length_set]; exact h.pl, by rw [List.length_set]; exact h.ol, hi, fun j hj => ?_, fun k hk => ?_, .inr ⟨by omega, ?_, ?_⟩, fun j hj k hk => ?_⟩
  · by_cases e : j = i
    · subst e
      rw [pS, oS, if_pos rfl, if_pos rfl, List.length_set, rS, if_pos rfl]
      exact ⟨rfl, hRl, by show r.a ≤ j; omega, Nat.lt_succ_self _⟩
    · have hji : j < i := by omega
      have := h.po j hji
      rw [pS, oS, if_neg (hne j hji), if_neg (hne j hji), List.length_set, rS]
      refine ⟨this.1, this.2.1, ?_⟩
      by_cases e2 : gN O (gN L j) = R.length - 1
      · rw [if_pos e2]
        have h3 := this.2.2
        rw [e2, hr] at h3
        show r.a ≤ j ∧ j < i + 1
        omega
      · rw [if_neg e2]; exact this.2.2
  · rw [List.length_set] at hk
    rw [rS]
    by_cases e : k = R.length - 1
    · rw [if_pos e]
      refine ⟨hlast.1, by show r.a < i + 1; omega, Nat.le_refl _, fun j h1 h2 => ?_⟩
      have h1 : r.a ≤ j := h1
      have h2 : j < i + 1 := h2
      rw [oS]
      by_cases e2 : j = i
      · rw [e2, if_pos rfl, e]
      · rw [if_neg (hne j (by omega)), e]
        exact hlast.2.2.2 j h1 (by omega)
    · rw [if_neg e]
      have := h.rm k hk
      refine ⟨this.1, this.2.1, by omega, fun j h1 h2 => ?_⟩
      rw [oS, if_neg (hne j (by omega))]
      exact this.2.2.2 j h1 h2
  · rw [Nat.add_sub_cancel, oS, if_pos rfl, List.length_set]; omega
  · rw [List.length_set, rS, if_pos rfl]
  · have hl1 : gN O (gN L (i - 1)) = R.length - 1 := by omega
    have key : ∀ j, j < i → (gN O (gN L j) = R.length - 1 ↔ gN OU (gN L j) = gN OU (gN L i)) := fun j hj => by rw [← hl1, hd]; exact h.lab j hj (i - 1) (by omega)
    by_cases e1 : j = i
    · by_cases e2 : k = i
      · rw [e1, e2]; exact ⟨fun _ => rfl, fun _ => rfl⟩
      · have hki : k < i := by omega
        rw [e1, oS, oS, if_pos rfl, if_neg (hne k hki)]
        exact ⟨fun e => ((key k hki).1 e.symm).symm, fun e => ((key k hki).2 e.symm).symm⟩
    · have hji : j < i := by omega
      by_cases e2 : k = i
      · rw [e2, oS, oS, if_pos rfl, if_neg (hne j hji)]
        exact key j hji
      · rw [oS, oS, if_neg (hne j hji), if_neg (hne k (by omega))]
        exact h.lab j hji k (by omega)
theorem ByS.fin (h : ByS n OU L n P O R) (hL : LsS n OU L) : PtS n L P O R ∧ Plain R ∧ ∀ s, s < n → ∀ t, t < n → (gN O s = gN O t ↔ gN OU s = gN OU t) := by
  refine ⟨⟨hL.ll, h.pl, h.ol, fun i hi => ⟨hL.lt i hi, (h.po i hi).1⟩, fun s hs => ?_, fun s hs => ?_, fun k hk => ?_, fun k hk => (h.rm k hk).2.2.2⟩, fun k hk => (h.rm k hk).1, fun s hs t ht => ?_⟩
  · obtain ⟨i, hi, e⟩ := hL.on s hs
    have := (h.po i hi).1
    rw [e] at this
    rw [this]; exact ⟨hi, e⟩
  · obtain ⟨i, hi, e⟩ := hL.on s hs
    have := h.po i hi
    rw [e] at this
    rw [this.1]; exact this.2
  · have := h.rm k hk
    omega
  · obtain ⟨i, hi, rfl⟩ := hL.on s hs
    obtain ⟨j, hj, rfl⟩ := hL.on t ht
    exact h.lab i hi j hj
end
end Go.Proofs.YtdgoilkgplnhfabGreat
namespace Go.Proofs.YtdgoilkgplnhfabGreat
open Go.RowKit Go.Lib
theorem rCells_end (R : List Rm) (k : Nat) (h : k < R.length) (m : Nat) : (rCells R).set (k * 3 + 2) (.int .i64 (m : Int)) = rCells (R.set k ⟨(gR R k).a, (gR R k).m, m⟩) := by
  refine List.ext_getElem? (fun i => ?_)
  rw [List.getElem?_set]
  by_cases hi : i < R.length * 3
  · obtain ⟨q, j, hj, rfl⟩ : ∃ q j, j < 3 ∧ i = q * 3 + j := ⟨i / 3, i % 3, by omega, by omega⟩
    rw [rCells_get (R.set k _) q j (by rw [List.length_set]; omega) hj, gR_set R h, rCells_length]
    by_cases e : q = k
    · subst e
      rw [if_pos rfl]
      match j, hj with
      | 0, _ => rw [if_neg (by omega), rCells_get _ _ _ h (by omega)]; simp [rmC]
      | 1, _ => rw [if_neg (by omega), rCells_get _ _ _ h (by omega)]; simp [rmC]
      | 2, _ => rw [if_pos rfl, if_pos (by omega)]; simp [rmC]
    · rw [if_neg (by omega), if_neg e, rCells_get _ _ _ (by omega) hj]
  · rw [if_neg (by omega), List.getElem?_eq_none (by rw [rCells_length]; omega), List.getElem?_eq_none (by rw [rCells_length, List.length_set]; omega)]
section
variable {w w' : World} {base pb : Nat} {lv pv ov rv : Value} {L P O : List Nat} {R : List Rm}
theorem PrM.ends {rg cr : Nat} (h : PrM w base pb lv pv ov (.slice (some ⟨rg, 0, none⟩) R.length cr) L P O R) {k : Nat} (hk : k < R.length) (m : Nat) :
    PrM (w.setCell ⟨rg, k * 3 + 2, none⟩ (.int .i64 (m : Int))) base pb lv pv ov (.slice (some ⟨rg, 0, none⟩) R.length cr) L P O (R.set k ⟨(gR R k).a, (gR R k).m, m⟩) ∧ Kept (fun b => b = rg) w (w.setCell ⟨rg, k * 3 + 2, none⟩ (.int .i64 (m : Int))) := by
  have oR : w.ownsRow base 112 3 (.slice (some ⟨rg, 0, none⟩) R.length cr) R.length (rCells R) := h.own
  obtain ⟨o1, h2⟩ := oR.stored (k * 3 + 2) (.int .i64 (m : Int))
  have k5 : Kept (fun b => b = rg) w (w.setCell ⟨rg, k * 3 + 2, none⟩ (.int .i64 (m : Int))) := (kept_of_grown h2).mono (fun b hb => by injection hb with hb; exact hb.symm)
  have o5 : OwnR (w.setCell ⟨rg, k * 3 + 2, none⟩ (.int .i64 (m : Int))) base (.slice (some ⟨rg, 0, none⟩) R.length cr) (R.set k ⟨(gR R k).a, (gR R k).m, m⟩) := by
    unfold OwnR
    rw [List.length_set, ← rCells_end R k hk]
    exact o1
  refine ⟨⟨(k5.block pb (lt_of_block h.blk) (fun e => h.notpb rg (.inr (.inr (.inr rfl))) e.symm)).trans h.blk, h.ge, h.rws.kept k5 (fun j hj b hb e => ?_), o5⟩, k5⟩
  exact own_ne (show w.ownsRow base 3 1 _ _ (nCells _) from h.rws.own j hj) oR (by decide) b hb (by rw [e]; rfl)
theorem PrM.setL {lg nl cl : Nat} (h : PrM w base pb (.slice (some ⟨lg, 0, none⟩) nl cl) pv ov rv L P O R) (i x : Nat) :
    PrM (w.setCell ⟨lg, i, none⟩ (.int .i64 (x : Int))) base pb (.slice (some ⟨lg, 0, none⟩) nl cl) pv ov rv (L.set i x) P O R := by
  have oL : w.ownsRow base 3 1 (.slice (some ⟨lg, 0, none⟩) nl cl) L.length (nCells L) := h.rws.own 0 (by simp)
  have oR : w.ownsRow base 112 3 rv R.length (rCells R) := h.own
  have k5 : Kept (fun b => b = lg) w (w.setCell ⟨lg, i, none⟩ (.int .i64 (x : Int))) := (Kept.refl (fun b => b = lg) w).setCell (p := ⟨lg, i, none⟩) rfl _
  exact ⟨(k5.block pb (lt_of_block h.blk) (fun e => h.notpb lg (.inl rfl) e.symm)).trans h.blk, h.ge, h.rws.store (i := 0) (by simp) rfl i x, own_kept h.own k5 (fun b hb e => own_ne oR oL (by decide) b hb (by rw [e]; rfl))⟩
theorem PrM.setPO {pg np cp og no co : Nat} (h : PrM w base pb lv (.slice (some ⟨pg, 0, none⟩) np cp) (.slice (some ⟨og, 0, none⟩) no co) rv L P O R) (s i k : Nat) :
    PrM ((w.setCell ⟨pg, s, none⟩ (.int .i64 (i : Int))).setCell ⟨og, s, none⟩ (.int .i64 (k : Int))) base pb lv (.slice (some ⟨pg, 0, none⟩) np cp) (.slice (some ⟨og, 0, none⟩) no co) rv L (P.set s i) (O.set s k) R := by
  have oP : w.ownsRow base 3 1 (.slice (some ⟨pg, 0, none⟩) np cp) P.length (nCells P) := h.rws.own 1 (by simp)
  have oO : w.ownsRow base 3 1 (.slice (some ⟨og, 0, none⟩) no co) O.length (nCells O) := h.rws.own 2 (by simp)
  have oR : w.ownsRow base 112 3 rv R.length (rCells R) := h.own
  have k5 : Kept (fun b => b = pg ∨ b = og) w ((w.setCell ⟨pg, s, none⟩ (.int .i64 (i : Int))).setCell ⟨og, s, none⟩ (.int .i64 (k : Int))) := ((Kept.refl (fun b => b = pg ∨ b = og) w).setCell (p := ⟨pg, s, none⟩) (.inl rfl) _).setCell (p := ⟨og, s, none⟩) (.inr rfl) _
  refine ⟨(k5.block pb (lt_of_block h.blk) (fun e => ?_)).trans h.blk, h.ge, (h.rws.store (i := 1) (by simp) rfl s i).store (i := 2) (by simp) rfl s k, own_kept h.own k5 (fun b hb e => ?_)⟩
  · rcases e with e | e
    · exact h.notpb pg (.inr (.inl rfl)) e.symm
    · exact h.notpb og (.inr (.inr (.inl rfl))) e.symm
  · rcases e with e | e
    · exact own_ne oR oP (by decide) b hb (by rw [e]; rfl)
    · exact own_ne oR oO (by decide) b hb (by rw [e]; rfl)
end
theorem four_alloc (V : World) (a b c d : Array Value) (T T' T2 T3 : TypeId) : Below V.heap.size V ((((V.alloc (.cells a T)).alloc (.cells b T')).alloc (.cells c T2)).alloc (.cells d T3)).drew ∧ ((((V.alloc (.cells a T)).alloc (.cells b T')).alloc (.cells c T2)).alloc (.cells d T3)).drew.heap[V.heap.size]? = some (.cells a T (0, 0)) ∧ ((((V.alloc (.cells a T)).alloc (.cells b T')).alloc (.cells c T2)).alloc (.cells d T3)).drew.heap[V.heap.size + 1]? = some (.cells b T' (0, 0)) ∧ ((((V.alloc (.cells a T)).alloc (.cells b T')).alloc (.cells c T2)).alloc (.cells d T3)).drew.heap[V.heap.size + 1 + 1]? = some (.cells c T2 (0, 0)) ∧ ((((V.alloc (.cells a T)).alloc (.cells b T')).alloc (.cells c T2)).alloc (.cells d T3)).drew.heap[V.heap.size + 1 + 1 + 1]? = some (.cells d T3 (0, 0)) := by
  obtain ⟨x, b1, b2, hs⟩ := two_alloc' V a b T T'
  generalize (V.alloc (.cells a T)).alloc (.cells b T') = wa at *
  obtain ⟨y, c1, c2, hs2⟩ := two_alloc' wa c d T2 T3
  rw [hs] at c1 c2
  exact ⟨(bt x y (Nat.le_refl _)).drew, (y.block _ (lt_of_block b1)).trans b1, (y.block _ (lt_of_block b2)).trans b2, c1, c2⟩
theorem PrM.mk4 {w0 V wx : World} {n pb lg pg og : Nat} (hm : n ≤ maxLen) (x0 : w0.heap.size ≤ V.heap.size) (h1 : wx.heap[pb]? = some (.cells #[.slice (some ⟨lg, 0, none⟩) n n, .slice (some ⟨pg, 0, none⟩) n n, .slice (some ⟨og, 0, none⟩) n n, .slice none 0 0] 109 (0, 0))) (h2 : wx.heap[lg]? = some (.cells (madeCells #[.int .i64 0] n) 3 (0, 0))) (h3 : wx.heap[pg]? = some (.cells (madeCells #[.int .i64 0] n) 3 (0, 0))) (h4 : wx.heap[og]? = some (.cells (madeCells #[.int .i64 0] n) 3 (0, 0))) (n1 : ¬ lg = pg) (n2 : ¬ lg = og) (n3 : ¬ pg = og) (g1 : V.heap.size ≤ pb) (g2 : V.heap.size ≤ lg) (g3 : V.heap.size ≤ pg) (g4 : V.heap.size ≤ og) :
    PrM wx w0.heap.size pb (.slice (some ⟨lg, 0, none⟩) n n) (.slice (some ⟨pg, 0, none⟩) n n) (.slice (some ⟨og, 0, none⟩) n n) (.slice none 0 0) (List.replicate n 0) (List.replicate n 0) (List.replicate n 0) [] := by
  refine ⟨h1, by omega, ⟨fun j hj => ?_, fun j hj k hk hne b hb hb2 => ?_⟩, World.ownsRow_nil _ _ _ _⟩
  · match j, hj with
    | 0, _ => exact made_own wx w0.heap.size lg n (by omega) hm h2
    | 1, _ => exact made_own wx w0.heap.size pg n (by omega) hm h3
    | 2, _ => exact made_own wx w0.heap.size og n (by omega) hm h4
  · match j, hj, k, hk with
    | 0, _, 0, _ => exact hne rfl
    | 0, _, 1, _ => exact n1 (by have a : lg = b := Option.some.inj hb; have c : pg = b := Option.some.inj hb2; omega)
    | 0, _, 2, _ => exact n2 (by have a : lg = b := Option.some.inj hb; have c : og = b := Option.some.inj hb2; omega)
    | 1, _, 0, _ => exact n1 (by have a : pg = b := Option.some.inj hb; have c : lg = b := Option.some.inj hb2; omega)
    | 1, _, 1, _ => exact hne rfl
    | 1, _, 2, _ => exact n3 (by have a : pg = b := Option.some.inj hb; have c : og = b := Option.some.inj hb2; omega)
    | 2, _, 0, _ => exact n2 (by have a : og = b := Option.some.inj hb; have c : lg = b := Option.some.inj hb2; omega)
    | 2, _, 1, _ => exact n3 (by have a : og = b := Option.some.inj hb; have c : pg = b := Option.some.inj hb2; omega)
    | 2, _, 2, _ => exact hne rfl
theorem addr_add' (b off n : Nat) : (⟨b, off, none⟩ : Addr).add n = ⟨b, off + n, none⟩ := by unfold Addr.add; split <;> simp_all
theorem NAt.cells {w : World} {a : Addr} {L : List Nat} (h : NAt w (some a) L) : ∀ j u, (nCells L)[j]? = some u → w.cell? (a.add j) = some u := fun j u hu => by
  have hj : j < L.length := by
    rcases Nat.lt_or_ge j L.length with h1 | h1
    · exact h1
    · rw [List.getElem?_eq_none (by rw [nCells_length]; exact h1)] at hu; cases hu
  obtain ⟨b, off, e, _, c⟩ := h.get hj
  injection e with e
  subst e
  rw [nCells_get L j hj] at hu
  rw [addr_add', c]
  exact hu
theorem nCells_one (L : List Nat) : ∀ u ∈ nCells L, u.oneCell' = true := fun u hu => by
  obtain ⟨n, _, rfl⟩ := List.mem_map.1 hu
  simp [Value.oneCell']
set_option maxRecDepth 100000 in
set_option maxHeartbeats 1000000 in
theorem cloneN_any (a : Addr) (cap : Nat) (L : List Nat) (w : World) (hl : L.length ≤ 65536) (hat : NAt w (some a) L) :
    Calls Tryz.prog 57 #[.slice (some a) L.length cap] w fun e w' => (∃ v', e = .returned v' ∧ OwnN w' w.heap.size v' L) ∧ Below w.heap.size w w' := by
  obtain ⟨i3, hi3, hz30, hz31, hz32⟩ := info_parts Tryz.info3n
  have hnil := fun (a : Option Addr) (n c : Nat) (W : World) => run_eql_slice_nil (P := Tryz.prog) W 22 3 a n c 0 0 Tryz.underlying22
  have hb1 : Below w.heap.size w (w.alloc (.cells #[] 3)) := (Below.refl _ _).alloc (Nat.le_refl _) _
  have HN := hide (hat.below hb1).cells
  have HO : Hid ((w.alloc (.cells #[] 3)).ownsRow w.heap.size 3 1 (.slice (some ⟨w.heap.size, 0, none⟩) 0 0) 0 []) := ⟨rfl, .inr ⟨w.heap.size, 0, #[], rfl, Nat.le_refl _, by show (w.heap.push _)[_]? = _; simp, Nat.le_refl _, by decide, rfl, rfl⟩⟩
  have HB := hide hb1
  have HL : Hid ((nCells L).length = L.length * 1) := by unfold Hid; rw [nCells_length, Nat.mul_one]
  clear hat hb1
  go_enter Tryz.func57, Tryz.ntmps57
  go_wp2_with (at_builtin; refine wpList_append_own_at _ rfl (.tmp 5) (.tmp 6) 22 rfl w.heap.size 3 i3 (.int .i64 0) 1 8 Tryz.underlying22 hi3 hz30 hz31 hz32 rfl (by decide) _ 0 [] rfl HO.out a L.length cap (nCells L) rfl HL.out HN.out (nCells_one L) (by unfold maxLen; omega) (by omega) HB.out.size ?_; intro v8 w8 h1 h2 _ h3; have H1 := hide h1; have H2 := hide h2; clear h1 h2 h3)
  go_ret
  refine ⟨⟨_, rfl, ?_⟩, HB.out.grown H2.out HB.out.size (fun k hk => by cases hk; exact Nat.le_refl _)⟩
  have := H1.out
  rw [Nat.zero_add, List.nil_append] at this
  exact this
end Go.Proofs.YtdgoilkgplnhfabGreat
namespace Go.Proofs.YtdgoilkgplnhfabGreat
open Go.RowKit Go.Lib Go.Maps
def oC {S : Type} (val : S → Array Value) (St : List S) : List Value := St.flatMap fun s => (val s).toList
section
variable {S : Type} {val : S → Array Value}
theorem oC_snoc (St : List S) (x : S) : oC val (St ++ [x]) = oC val St ++ (val x).toList := by simp [oC]
theorem oC_get {K : Nat} : ∀ (St : List S), (∀ s ∈ St, (val s).size = K) → ∀ i (h : i < St.length) j (_ : j < K), (oC val St)[i * K + j]? = (val St[i])[j]?
  | [], _, i, h, _, _ => by simp at h
  | s :: St, hs, 0, _, j, hj => by
    have h0 := hs s List.mem_cons_self
    unfold oC
    rw [List.flatMap_cons, Nat.zero_mul, Nat.zero_add, List.getElem?_append_left (by rw [Array.length_toList, h0]; exact hj)]
    simp
  | s :: St, hs, i + 1, h, j, hj => by
    have h0 := hs s List.mem_cons_self
    have ih := oC_get St (fun t ht => hs t (List.mem_cons_of_mem _ ht)) i (by simp at h; omega) j hj
    unfold oC at ih ⊢
    rw [List.flatMap_cons, Nat.succ_mul, List.getElem?_append_right (by rw [Array.length_toList, h0]; omega), Array.length_toList, h0, show i * K + K + j - K = i * K + j by omega, ih]
    rfl
theorem oC_len {K : Nat} : ∀ (St : List S), (∀ s ∈ St, (val s).size = K) → (oC val St).length = St.length * K
  | [], _ => by simp [oC]
  | s :: St, hs => by
    have ih := oC_len St (fun t ht => hs t (List.mem_cons_of_mem _ ht))
    unfold oC at ih ⊢
    rw [List.flatMap_cons, List.length_append, ih, Array.length_toList, hs s List.mem_cons_self, List.length_cons, Nat.succ_mul]
    omega
structure XM (T K : Nat) {S : Type} (val : S → Array Value) (w0 : World) (mb : Nat) (ks : List Lit) (sv xv : Value) (St : List S) (NX : List Nat) (w : World) : Prop where
  map : MpAt T w mb ks
  o1 : w.ownsRow w0.heap.size T K sv St.length (oC val St)
  o2 : OwnN w w0.heap.size xv NX
  ap : ∀ b, sv.ownBlock = some b → ¬ xv.ownBlock = some b
  mge : w0.heap.size ≤ mb
  bel : Below w0.heap.size w0 w
variable {T K : Nat} {w0 w w' : World} {mb : Nat} {ks : List Lit} {sv xv v' : Value} {St : List S} {NX : List Nat}
theorem XM.below (h : XM T K val w0 mb ks sv xv St NX w) (x : Below w.heap.size w w') : XM T K val w0 mb ks sv xv St NX w' :=
  ⟨h.map.below x, own_below h.o1 x, own_below h.o2 x, h.ap, h.mge, bt h.bel x (Nat.le_refl _)⟩
theorem XM.put (h : XM T K val w0 mb ks sv xv St NX w) {kl : Lit} {D : DataW Unit} (hm : kl ∉ ks) (hk : WideAt.IsKeyLit kl) (hh : ∀ kl, Maps.has D kl = true ↔ kl ∈ ks) (ha : ∀ i (h : i < ks.length), D.atKey ks[i] (.lit (.int .i64 0)) = .lit (.int .i64 (i : Int)))
    (ho : w.ownsMap Tryz.prog T (plainElem Tryz.prog 3) mb ks.length D) (h1 : w'.ownsMap Tryz.prog T (plainElem Tryz.prog 3) mb (ks.length + 1) (D.put kl (.lit (.int .i64 (ks.length : Int))))) (t4 : w.mapTurned w' mb) : XM T K val w0 mb (ks ++ [kl]) sv xv St NX w' := by
  have k4 : Kept (fun b => b = mb) w w' := (kept_of_grown t4.grown).mono (fun b hb => by injection hb with hb; exact hb.symm)
  exact ⟨MpAt.put hk hm ho.isMap hh ha h1, own_kept h.o1 k4 (fun b hb e => own_ne_map h.map h.o1 (by rw [← e]; exact hb)), own_kept h.o2 k4 (fun b hb e => own_ne_map h.map h.o2 (by rw [← e]; exact hb)), h.ap, h.mge, h.bel.trans (k4.below h.bel.size (fun i hi => by have := h.mge; omega))⟩
theorem app_keptX {w w6 : World} {v v' : Value} (g2 : AppAt w w6 v v') : ∃ F : Nat → Prop, Kept F w w6 ∧ (∀ b, F b → v.ownBlock = some b) := by
  rcases g2 with ⟨q, a, b, c⟩ | ⟨a, b⟩
  · exact ⟨fun b => some q = some b, kept_of_grown c, fun b hb => a.trans hb⟩
  · exact ⟨fun _ => False, Kept.of_below (below_of_grown a), fun b hb => hb.elim⟩
theorem app_apart {w w6 : World} {v v' u : Value} {base e size n : Nat} {xs : List Value} (g2 : AppAt w w6 v v') (hu : w.ownsRow base e size u n xs) (hap : ∀ b, v.ownBlock = some b → ¬ u.ownBlock = some b) : ∀ b, v'.ownBlock = some b → ¬ u.ownBlock = some b := fun b hb hv => by
  rcases g2 with ⟨q, a, c, _⟩ | ⟨_, c⟩
  · exact hap b (by rw [a, ← c]; exact hb) hv
  · have h1 := c b hb
    have h2 := (World.ownsRow.lt hu b hv).2
    omega
theorem XM.appS (h : XM T K val w0 mb ks sv xv St NX w) (x : S) (g1 : w'.ownsRow w0.heap.size T K v' (St.length + 1) (oC val St ++ (val x).toList)) (g2 : AppAt w w' sv v') : XM T K val w0 mb ks v' xv (St ++ [x]) NX w' := by
  obtain ⟨F, k6, hF⟩ := app_keptX g2
  refine ⟨h.map.kept k6 (fun hf => own_ne_map h.map h.o1 (hF _ hf)), ?_, own_kept h.o2 k6 (fun b hb hf => h.ap b (hF b hf) hb), app_apart g2 h.o2 h.ap, h.mge, h.bel.trans (k6.below h.bel.size (fun i hf => (World.ownsRow.lt h.o1 i (hF i hf)).1))⟩
  rw [oC_snoc, List.length_append, List.length_singleton]
  exact g1
theorem XM.appX (h : XM T K val w0 mb ks sv xv St NX w) (n : Nat) (g1 : w'.ownsRow w0.heap.size 3 1 v' (NX.length + 1) (nCells NX ++ [.int .i64 (n : Nat)])) (g2 : AppAt w w' xv v') : XM T K val w0 mb ks sv v' St (NX ++ [n]) w' := by
  obtain ⟨F, k6, hF⟩ := app_keptX g2
  have o2 : w.ownsRow w0.heap.size 3 1 xv NX.length (nCells NX) := h.o2
  refine ⟨h.map.kept k6 (fun hf => own_ne_map h.map o2 (hF _ hf)), own_kept h.o1 k6 (fun b hb hf => h.ap b hb (hF b hf)), ?_, fun b hb hv => app_apart g2 h.o1 (fun b hb hv => h.ap b hv hb) b hv hb, h.mge, h.bel.trans (k6.below h.bel.size (fun i hf => (World.ownsRow.lt o2 i (hF i hf)).1))⟩
  unfold OwnN
  rw [nCells_snoc, List.length_append, List.length_singleton]
  exact g1
theorem XM.cells (h : XM T K val w0 mb ks sv xv St NX w) (hs : ∀ s ∈ St, (val s).size = K) {i : Nat} (hi : i < St.length) : ∃ g cap, sv = .slice (some ⟨g, 0, none⟩) St.length cap ∧ ∀ j v, (val St[i])[j]? = some v → w.cell? ((⟨g, i * K, none⟩ : Addr).add j) = some v := by
  rcases h.o1.2 with ⟨_, e1⟩ | ⟨g, cap, cur, e1, hb, hg, hnc, hcm, hcs, htake⟩
  · omega
  · refine ⟨g, cap, e1, fun j v hv => ?_⟩
    have hj : j < K := by
      have h1 := hs _ (List.getElem_mem hi)
      apply Nat.lt_of_not_le
      intro hle
      rw [Array.getElem?_eq_none (by rw [h1]; exact hle)] at hv
      cases hv
    have h2 := oC_get St hs i hi j hj
    rw [hv, ← htake, List.getElem?_take, if_pos (at_lt hi hj)] at h2
    have e2 : (⟨g, i * K, none⟩ : Addr).add j = ⟨g, i * K + j, none⟩ := by unfold Addr.add; split <;> simp_all
    rw [e2, cell_of_row _ _ _ _ _ _ hg]
    simpa using h2
end
end Go.Proofs.YtdgoilkgplnhfabGreat
namespace Go.Proofs.YtdgoilkgplnhfabGreat
open Go.RowKit Go.Lib
theorem OwnU.slot' {w : World} {base g n cap : Nat} {L : List Nat} (h : OwnU w base (.slice (some ⟨g, 0, none⟩) n cap) L) {i : Nat} (hi : i < L.length) : w.cell? ⟨g, i, none⟩ = some (.int .u8 ((gN L i : Nat) : Int)) ∧ w.frozen? ⟨g, i, none⟩ = false := by
  have hh : w.ownsRow base 5 1 (.slice (some ⟨g, 0, none⟩) n cap) L.length (uCells L) := h
  have hn : n = L.length := by
    rcases hh.2 with ⟨e, e2⟩ | ⟨g', c', cur, e, _⟩
    · cases e
    · injection e with _ e2 _
  subst hn
  refine ⟨?_, hh.frozenAt _⟩
  rw [hh.cellAt i (by omega), gN_lt hi]
  simp [uCells, hi]
theorem OwnU.store' {w : World} {base g cap n : Nat} {L : List Nat} (h : OwnU w base (.slice (some ⟨g, 0, none⟩) n cap) L) (i x : Nat) : OwnU (w.setCell ⟨g, i, none⟩ (.int .u8 (x : Int))) base (.slice (some ⟨g, 0, none⟩) n cap) (L.set i x) ∧ Kept (fun k => k = g) w (w.setCell ⟨g, i, none⟩ (.int .u8 (x : Int))) := by
  have hh : w.ownsRow base 5 1 (.slice (some ⟨g, 0, none⟩) n cap) L.length (uCells L) := h
  have hn : n = L.length := by
    rcases hh.2 with ⟨e, e2⟩ | ⟨g', c', cur, e, _⟩
    · cases e
    · injection e with _ e2 _
  subst hn
  obtain ⟨h1, h2⟩ := hh.stored i (.int .u8 (x : Int))
  refine ⟨?_, (kept_of_grown h2).mono (fun k hk => by injection hk with hk; exact hk.symm)⟩
  unfold OwnU
  rw [List.length_set, show uCells (L.set i x) = (uCells L).set i (.int .u8 (x : Int)) by simp [uCells, List.map_set]]
  exact h1
def Rvk (L R : List Nat) (k : Nat) : Prop := R.length = L.length ∧ ∀ q, q < L.length → gN R q = if q < k ∨ L.length - k ≤ q then gN L (L.length - 1 - q) else gN L q
theorem gN_setR (L : List Nat) (i x q : Nat) (h : q < L.length) : gN (L.set i x) q = if i = q then x else gN L q := by
  rw [gN_lt (by rw [List.length_set]; exact h), gN_lt h, List.getElem_set]
theorem Rvk.next {L R : List Nat} {k : Nat} (h : Rvk L R k) (hk : k < L.length - 1 - k) : Rvk L ((R.set k (gN R (L.length - 1 - k))).set (L.length - 1 - k) (gN R k)) (k + 1) := by
  refine ⟨by rw [List.length_set, List.length_set, h.1], fun q hq => ?_⟩
  have hR := h.1
  rw [gN_setR _ _ _ _ (by rw [List.length_set, hR]; exact hq), gN_setR _ _ _ _ (by rw [hR]; exact hq)]
  have h1 := h.2 k (by omega)
  have h2 := h.2 (L.length - 1 - k) (by omega)
  rw [if_neg (by omega)] at h1 h2
  by_cases e1 : L.length - 1 - k = q
  · rw [if_pos e1, if_pos (by omega), h1]
    congr 1
    omega
  · rw [if_neg e1]
    by_cases e2 : k = q
    · rw [if_pos e2, if_pos (by omega), h2]
      congr 1
      omega
    · rw [if_neg e2, h.2 q hq]
      by_cases h3 : q < k ∨ L.length - k ≤ q
      · rw [if_pos h3, if_pos (by omega)]
      · rw [if_neg h3, if_neg (by omega)]
theorem Rvk.done {L R : List Nat} {k : Nat} (h : Rvk L R k) (hk : ¬ (k : Int) < (L.length : Int) - 1 - k) : R = L.reverse := by
  apply List.ext_getElem
  · rw [h.1, List.length_reverse]
  · intro q h1 h2
    have hq : q < L.length := by rw [← h.1]; exact h1
    have h3 := h.2 q hq
    rw [gN_lt h1] at h3
    rw [h3, List.getElem_reverse]
    split
    · exact gN_lt _
    · rw [gN_lt hq]
      congr 1
      omega
set_option maxRecDepth 100000 in
set_option maxHeartbeats 4000000 in
theorem reverse_any (base g cap : Nat) (L : List Nat) (w : World) (hl : L.length ≤ 4294967296) (ho : OwnU w base (.slice (some ⟨g, 0, none⟩) L.length cap) L) :
    Calls Tryz.prog 50 #[.slice (some ⟨g, 0, none⟩) L.length cap] w fun e w' => e = .returned (.tuple #[]) ∧ OwnU w' base (.slice (some ⟨g, 0, none⟩) L.length cap) L.reverse ∧ Kept (fun k => k = g) w w' := by
  have HO := hide ho
  have hg := (World.ownsRow.lt (show w.ownsRow base 5 1 (.slice (some ⟨g, 0, none⟩) L.length cap) L.length (uCells L) from ho) g rfl).2
  have HR0 : Hid (Rvk L L 0) := ⟨rfl, fun q hq => by rw [if_neg (by omega)]⟩
  have w0 : IntKind.i64.wrap ((L.length : Int) - 1) = (L.length : Int) - 1 := by simp [IntKind.wrap, IntKind.bits, IntKind.signed]; omega
  clear ho
  go_enter Tryz.func50, Tryz.ntmps50
  go_wp2
  go_loopg [2, 3] (L.length + 1) (fun gg x y wr => ∃ (k : Nat) (R : List Nat), x = .int .i64 (k : Nat) ∧ y = .int .i64 ((L.length : Int) - 1 - (k : Int)) ∧ Hid (OwnU wr base (.slice (some ⟨g, 0, none⟩) L.length cap) R) ∧ Hid (Rvk L R k) ∧ Hid (Kept (fun k => k = g) w wr) ∧ k ≤ L.length ∧ L.length - k < gg)
  case atStart => exact ⟨0, L, rfl, by congr 1; simp, HO, HR0, Kept.refl _ _, by omega, by omega⟩
  case round =>
    obtain ⟨k, R, rfl, rfl, O, RV, KP, hk, hgg⟩ := hrel
    have HG := hide hgg
    clear hgg HR0
    by_cases hlt : k < L.length - 1 - k
    · have hlt' : (k : Int) < (L.length : Int) - 1 - (k : Int) := by omega
      have hRl := RV.out.1
      obtain ⟨j, hj⟩ : ∃ j, Hid (j = L.length - 1 - k) := ⟨_, rfl⟩
      have hj1 : (L.length : Int) - 1 - (k : Int) = (j : Int) := by rw [hj.out]; omega
      have hjk : ¬ k = j := by rw [hj.out]; omega
      have hjl : j < L.length := by rw [hj.out]; omega
      have hkj : (k : Int) < (j : Int) := by omega
      have hjl' : (j : Int) < (L.length : Int) := by omega
      have hkl' : (k : Int) < (L.length : Int) := by omega
      obtain ⟨x1, x2⟩ := O.out.slot' (i := k) (by omega)
      obtain ⟨x3, x4⟩ := O.out.slot' (i := j) (by omega)
      have RN := hide (RV.out.next hlt)
      rw [← hj.out] at RN
      have O' : OwnU wr.drew base (.slice (some ⟨g, 0, none⟩) L.length cap) R := own_below O.out (Below.refl _ _).drew
      have kd : Kept (fun k => k = g) wr wr.drew := Kept.of_below (Below.refl _ _).drew
      obtain ⟨o1, k1⟩ := O'.store' k (gN R j)
      obtain ⟨o2, k2⟩ := o1.store' j (gN R k)
      have ON := hide o2
      have KN := hide (((KP.out.trans kd).trans k1).trans k2)
      obtain ⟨y3, y4⟩ := o1.slot' (i := j) (by rw [List.length_set]; omega)
      rw [hj1]
      have wk : IntKind.i64.wrap ((k : Int) + 1) = ((k + 1 : Nat) : Int) := by rw [show (k : Int) + 1 = ((k + 1 : Nat) : Int) by simp]; exact w64_n _ (by omega)
      have wj : IntKind.i64.wrap ((j : Int) - 1) = (j : Int) - 1 := by simp [IntKind.wrap, IntKind.bits, IntKind.signed]; omega
      have HJ1 := hide hj1
      clear hj1 o1 k1 o2 k2 O' kd
      generalize gN R k = u at *
      generalize gN R j = v at *
      go_wp2
      go_region
      all_goals
        go_wp2
        go_roundg (L.length - (k + 1) + 1)
        case measure => have := HG.out; omega
        case rel => exact ⟨k + 1, _, by first | rfl | go_num | (congr 1; omega), by congr 1; have := HJ1.out; omega, ON, RN, KN, by omega, by omega⟩
    · have hlt' : ¬ (k : Int) < (L.length : Int) - 1 - (k : Int) := by omega
      have RD := hide (RV.out.done hlt')
      go_wp2
      refine bodyPost_end (v := .tuple #[]) (results_none rfl _ _ _) rfl ?_
      exact ⟨rfl, by rw [← RD.out]; exact O.out, KP.out⟩
def IxP (L : List Int) (v : Int) (e : Ending) : Prop :=
  (∃ i : Nat, e = .returned (.int .i64 (i : Int)) ∧ L[i]? = some v ∧ ∀ j, j < i → L[j]? ≠ some v) ∨ (e = .returned (.int .i64 (-1)) ∧ v ∉ L)
set_option maxRecDepth 100000 in
theorem index66_any (ao : Option Addr) (cap : Nat) (L : List Int) (v : Int) (w : World) (hl : L.length ≤ 140737488351232) (hat : ZAt w ao L) :
    Calls Tryz.prog 28 #[.slice ao L.length cap, .int .i64 v] w fun e w' => IxP L v e ∧ w' = w := by
  have HAT := hide hat
  clear hat
  go_enter Tryz.func28, Tryz.ntmps28
  go_wp2
  go_loopg [8] (L.length + 1) (fun g x wr => ∃ k : Nat, x = .int .i64 (k : Nat) ∧ k ≤ L.length ∧ Hid (∀ j, j < k → L[j]? ≠ some v) ∧ wr = w ∧ L.length - k < g)
  case atStart => exact ⟨0, rfl, by omega, fun j hj => by omega, rfl, by omega⟩
  case round =>
    obtain ⟨k, rfl, hk1, HA, rfl, hg⟩ := hrel
    have HG := hide hg
    clear hg
    by_cases hk : k < L.length
    · have hk' : (k : Int) < (L.length : Int) := by omega
      obtain ⟨b, off, rfl, c0⟩ := HAT.out.get hk
      obtain ⟨z, hz⟩ : ∃ z, L[k] = z := ⟨_, rfl⟩
      have HZ : Hid (L[k]? = some z) := by unfold Hid; rw [List.getElem?_eq_getElem hk, hz]
      rw [hz] at c0
      clear hz
      by_cases hv : v = z
      · subst hv
        go_wp2
        go_ret
        exact ⟨.inl ⟨k, rfl, HZ.out, HA.out⟩, rfl⟩
      · have HV : Hid (∀ j, j < k + 1 → L[j]? ≠ some v) := fun j hj => by
          by_cases e : j = k
          · rw [e, HZ.out]; intro h; injection h with h; exact hv h.symm
          · exact HA.out j (by omega)
        go_wp2
        go_roundg (L.length - (k + 1) + 1)
        case measure => have := HG.out; omega
        case rel => exact ⟨k + 1, by first | rfl | go_num | (congr 1; omega), by omega, HV, rfl, by omega⟩
    · have hk' : ¬ (k : Int) < (L.length : Int) := by omega
      obtain rfl : k = L.length := by omega
      go_wp2
      go_ret
      refine ⟨.inr ⟨rfl, fun h => ?_⟩, rfl⟩
      obtain ⟨i, hi, e⟩ := List.getElem_of_mem h
      exact HA.out i hi (by rw [List.getElem?_eq_getElem hi, e])
end Go.Proofs.YtdgoilkgplnhfabGreat
