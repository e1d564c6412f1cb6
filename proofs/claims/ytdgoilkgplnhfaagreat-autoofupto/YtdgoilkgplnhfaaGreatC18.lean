/-
  States that are sorted by their labels, put into parts of one label each. Of no program: no condition.
-/
import Derived.Test.YtdgoilkgplnhfaaGreatC17
set_option maxRecDepth 100000
set_option maxHeartbeats 16000000
namespace Go.Proofs.YtdgoilkgplnhfaaGreat
structure LsS (n : Nat) (OU L : List Nat) : Prop where
 ll : L.length = n
 lt : ∀ i, i < n → gN L i < n
 nd : ∀ i, i < n → ∀ j, j < n → gN L i = gN L j → i = j
 on : ∀ s, s < n → ∃ i, i < n ∧ gN L i = s
 up : ∀ i j, i ≤ j → j < n → gN OU (gN L i) ≤ gN OU (gN L j)
structure ByS (n : Nat) (OU L : List Nat) (i : Nat) (P O : List Nat) (R : List Rm) : Prop where
 pl : P.length = n
 ol : O.length = n
 il : i ≤ n
 po : ∀ j, j < i → gN P (gN L j) = j ∧ gN O (gN L j) < R.length ∧ (gR R (gN O (gN L j))).a ≤ j ∧ j < (gR R (gN O (gN L j))).e
 rm : ∀ k, k < R.length → (gR R k).m = (gR R k).a ∧ (gR R k).a < (gR R k).e ∧ (gR R k).e ≤ i ∧ ∀ j, (gR R k).a ≤ j → j < (gR R k).e → gN O (gN L j) = k
 la : (i = 0 ∧ R.length = 0) ∨ (0 < i ∧ gN O (gN L (i - 1)) + 1 = R.length ∧ (gR R (R.length - 1)).e = i)
 lab : ∀ j, j < i → ∀ k, k < i → (gN O (gN L j) = gN O (gN L k) ↔ gN OU (gN L j) = gN OU (gN L k))
section
variable {n : Nat} {OU L P O : List Nat} {i : Nat} {R : List Rm}
theorem ByS.start (hp : P.length = n) (ho : O.length = n) : ByS n OU L 0 P O [] :=
 ⟨hp, ho, Nat.zero_le _, fun j hj => (by omega), fun k hk => (by cases hk), .inl ⟨rfl, rfl⟩, fun j hj => (by omega)⟩
theorem ByS.le (h : ByS n OU L i P O R) : R.length ≤ i :=
 pigeon i R.length (fun k => (gR R k).a) (fun k hk => by have := h.rm k hk; omega) (fun x hx y hy e => by
  have h1 := h.rm x hx
  have h2 := h.rm y hy
  have e' : (gR R x).a = (gR R y).a := e
  rw [← h1.2.2.2 _ (Nat.le_refl _) h1.2.1, ← h2.2.2.2 _ (Nat.le_refl _) h2.2.1, e'])
theorem ByS.new (h : ByS n OU L i P O R) (hL : LsS n OU L) (hi : i < n) (hd : i = 0 ∨ ¬ gN OU (gN L i) = gN OU (gN L (i - 1))) : ByS n OU L (i + 1) (P.set (gN L i) i) (O.set (gN L i) R.length) (R ++ [⟨i, i, i + 1⟩]) := by
 have hlt := hL.lt i hi
 have pS : ∀ t, gN (P.set (gN L i) i) t = if t = gN L i then i else gN P t := fun t => gN_set P (by rw [h.pl]; exact hlt) i t
 have oS : ∀ t, gN (O.set (gN L i) R.length) t = if t = gN L i then R.length else gN O t := fun t => gN_set O (by rw [h.ol]; exact hlt) _ t
 have hne : ∀ j, j < i → ¬ gN L j = gN L i := fun j hj e => by have := hL.nd j (by omega) i hi e; omega
 have hlen : (R ++ [(⟨i, i, i + 1⟩ : Rm)]).length = R.length + 1 := by simp
 have rL : gR (R ++ [(⟨i, i, i + 1⟩ : Rm)]) R.length = ⟨i, i, i + 1⟩ := gR_last R _
 have hun : ∀ j, j < i → ¬ gN OU (gN L j) = gN OU (gN L i) := fun j hj e => by
  rcases hd with hd | hd
  · omega
  · have a1 := hL.up j (i - 1) (by omega) (by omega)
    have a2 := hL.up (i - 1) i (by omega) hi
    omega
 refine ⟨by rw [List.length_set]; exact h.pl, by rw [List.length_set]; exact h.ol, hi, fun j hj => ?_, fun k hk => ?_, .inr ⟨by omega, ?_, ?_⟩, fun j hj k hk => ?_⟩
 · by_cases e : j = i
   · subst e
     rw [pS, oS, if_pos rfl, if_pos rfl, hlen, rL]
     exact ⟨rfl, Nat.lt_succ_self _, Nat.le_refl _, Nat.lt_succ_self _⟩
   · have hji : j < i := by omega
     have := h.po j hji
     rw [pS, oS, if_neg (hne j hji), if_neg (hne j hji), hlen, gR_left this.2.1]
     exact ⟨this.1, by omega, this.2.2⟩
 · rw [hlen] at hk
   by_cases e : k < R.length
   · have := h.rm k e
     rw [gR_left e]
     refine ⟨this.1, this.2.1, by omega, fun j h1 h2 => ?_⟩
     rw [oS, if_neg (hne j (by omega))]
     exact this.2.2.2 j h1 h2
   · obtain rfl : k = R.length := by omega
     rw [rL]
     refine ⟨rfl, Nat.lt_succ_self _, Nat.le_refl _, fun j h1 h2 => ?_⟩
     have h1 : i ≤ j := h1
     have h2 : j < i + 1 := h2
     obtain rfl : j = i := by omega
     rw [oS, if_pos rfl]
 · rw [Nat.add_sub_cancel, oS, if_pos rfl, hlen]
 · rw [hlen, Nat.add_sub_cancel, rL]
 · by_cases e1 : j = i
   · by_cases e2 : k = i
     · rw [e1, e2]; exact ⟨fun _ => rfl, fun _ => rfl⟩
     · have hki : k < i := by omega
       have := h.po k hki
       rw [e1, oS, oS, if_pos rfl, if_neg (hne k hki)]
       exact ⟨fun e => by omega, fun e => absurd e.symm (hun k hki)⟩
   · have hji : j < i := by omega
     have hpj := h.po j hji
     by_cases e2 : k = i
     · rw [e2, oS, oS, if_pos rfl, if_neg (hne j hji)]
       exact ⟨fun e => by omega, fun e => absurd e (hun j hji)⟩
     · rw [oS, oS, if_neg (hne j hji), if_neg (hne k (by omega))]
       exact h.lab j hji k (by omega)
theorem ByS.more (h : ByS n OU L i P O R) (hL : LsS n OU L) (hi : i < n) (h0 : 0 < i) (hd : gN OU (gN L i) = gN OU (gN L (i - 1))) {r : Rm} (hr : gR R (R.length - 1) = r) : 0 < R.length ∧ ByS n OU L (i + 1) (P.set (gN L i) i) (O.set (gN L i) (R.length - 1)) (R.set (R.length - 1) ⟨r.a, r.m, i + 1⟩) := by
 obtain ⟨hq1, hq2, hq3⟩ := h.la.resolve_left (fun e => by omega)
 have hlt := hL.lt i hi
 have hRl : R.length - 1 < R.length := by omega
 have hlast := h.rm _ hRl
 rw [hr] at hlast hq3
 have pS : ∀ t, gN (P.set (gN L i) i) t = if t = gN L i then i else gN P t := fun t => gN_set P (by rw [h.pl]; exact hlt) i t
 have oS : ∀ t, gN (O.set (gN L i) (R.length - 1)) t = if t = gN L i then R.length - 1 else gN O t := fun t => gN_set O (by rw [h.ol]; exact hlt) _ t
 have rS : ∀ k, gR (R.set (R.length - 1) ⟨r.a, r.m, i + 1⟩) k = if k = R.length - 1 then ⟨r.a, r.m, i + 1⟩ else gR R k := fun k => gR_set R hRl _ k
 have hne : ∀ j, j < i → ¬ gN L j = gN L i := fun j hj e => by have := hL.nd j (by omega) i hi e; omega
 refine ⟨by omega, by rw [List.length_set]; exact h.pl, by rw [List.length_set]; exact h.ol, hi, fun j hj => ?_, fun k hk => ?_, .inr ⟨by omega, ?_, ?_⟩, fun j hj k hk => ?_⟩
 · by_cases e : j = i
   · subst e
     rw [pS, oS, if_pos rfl, if_pos rfl, List.length_set, rS, if_pos rfl]
     exact ⟨rfl, hRl, by show r.a ≤ j; omega, Nat.lt_succ_self _⟩
   · have hji : j < i := by omega
     have := h.po j hji
     rw [pS, oS, if_neg (hne j hji), if_neg (hne j hji), List.length_set, rS]
     refine ⟨this.1, this.2.1, ?_⟩
     by_cases e2 : gN O (gN L j) = R.length - 1
     · rw [if_pos e2]
       have h3 := this.2.2
       rw [e2, hr] at h3
       show r.a ≤ j ∧ j < i + 1
       omega
     · rw [if_neg e2]; exact this.2.2
 · rw [List.length_set] at hk
   rw [rS]
   by_cases e : k = R.length - 1
   · rw [if_pos e]
     refine ⟨hlast.1, by show r.a < i + 1; omega, Nat.le_refl _, fun j h1 h2 => ?_⟩
     have h1 : r.a ≤ j := h1
     have h2 : j < i + 1 := h2
     rw [oS]
     by_cases e2 : j = i
     · rw [e2, if_pos rfl, e]
     · rw [if_neg (hne j (by omega)), e]
       exact hlast.2.2.2 j h1 (by omega)
   · rw [if_neg e]
     have := h.rm k hk
     refine ⟨this.1, this.2.1, by omega, fun j h1 h2 => ?_⟩
     rw [oS, if_neg (hne j (by omega))]
     exact this.2.2.2 j h1 h2
 · rw [Nat.add_sub_cancel, oS, if_pos rfl, List.length_set]; omega
 · rw [List.length_set, rS, if_pos rfl]
 · have hl1 : gN O (gN L (i - 1)) = R.length - 1 := by omega
   have key : ∀ j, j < i → (gN O (gN L j) = R.length - 1 ↔ gN OU (gN L j) = gN OU (gN L i)) := fun j hj => by rw [← hl1, hd]; exact h.lab j hj (i - 1) (by omega)
   by_cases e1 : j = i
   · by_cases e2 : k = i
     · rw [e1, e2]; exact ⟨fun _ => rfl, fun _ => rfl⟩
     · have hki : k < i := by omega
       rw [e1, oS, oS, if_pos rfl, if_neg (hne k hki)]
       exact ⟨fun e => ((key k hki).1 e.symm).symm, fun e => ((key k hki).2 e.symm).symm⟩
   · have hji : j < i := by omega
     by_cases e2 : k = i
     · rw [e2, oS, oS, if_pos rfl, if_neg (hne j hji)]
       exact key j hji
     · rw [oS, oS, if_neg (hne j hji), if_neg (hne k (by omega))]
       exact h.lab j hji k (by omega)
theorem ByS.fin (h : ByS n OU L n P O R) (hL : LsS n OU L) : PtS n L P O R ∧ Plain R ∧ ∀ s, s < n → ∀ t, t < n → (gN O s = gN O t ↔ gN OU s = gN OU t) := by
 refine ⟨⟨hL.ll, h.pl, h.ol, fun i hi => ⟨hL.lt i hi, (h.po i hi).1⟩, fun s hs => ?_, fun s hs => ?_, fun k hk => ?_, fun k hk => (h.rm k hk).2.2.2⟩, fun k hk => (h.rm k hk).1, fun s hs t ht => ?_⟩
 · obtain ⟨i, hi, e⟩ := hL.on s hs
   have := (h.po i hi).1
   rw [e] at this
   rw [this]; exact ⟨hi, e⟩
 · obtain ⟨i, hi, e⟩ := hL.on s hs
   have := h.po i hi
   rw [e] at this
   rw [this.1]; exact this.2
 · have := h.rm k hk
   omega
 · obtain ⟨i, hi, rfl⟩ := hL.on s hs
   obtain ⟨j, hj, rfl⟩ := hL.on t ht
   exact h.lab i hi j hj
end
end Go.Proofs.YtdgoilkgplnhfaaGreat
namespace Go.Proofs.YtdgoilkgplnhfaaGreat
open Go.RowKit Go.Lib
theorem rCells_end (R : List Rm) (k : Nat) (h : k < R.length) (m : Nat) : (rCells R).set (k * 3 + 2) (.int .i64 (m : Int)) = rCells (R.set k ⟨(gR R k).a, (gR R k).m, m⟩) := by
 refine List.ext_getElem? (fun i => ?_)
 rw [List.getElem?_set]
 by_cases hi : i < R.length * 3
 · obtain ⟨q, j, hj, rfl⟩ : ∃ q j, j < 3 ∧ i = q * 3 + j := ⟨i / 3, i % 3, by omega, by omega⟩
   rw [rCells_get (R.set k _) q j (by rw [List.length_set]; omega) hj, gR_set R h, rCells_length]
   by_cases e : q = k
   · subst e
     rw [if_pos rfl]
     match j, hj with
     | 0, _ => rw [if_neg (by omega), rCells_get _ _ _ h (by omega)]; simp [rmC]
     | 1, _ => rw [if_neg (by omega), rCells_get _ _ _ h (by omega)]; simp [rmC]
     | 2, _ => rw [if_pos rfl, if_pos (by omega)]; simp [rmC]
   · rw [if_neg (by omega), if_neg e, rCells_get _ _ _ (by omega) hj]
 · rw [if_neg (by omega), List.getElem?_eq_none (by rw [rCells_length]; omega), List.getElem?_eq_none (by rw [rCells_length, List.length_set]; omega)]
section
variable {w w' : World} {base pb : Nat} {lv pv ov rv : Value} {L P O : List Nat} {R : List Rm}
theorem PrM.ends {rg cr : Nat} (h : PrM w base pb lv pv ov (.slice (some ⟨rg, 0, none⟩) R.length cr) L P O R) {k : Nat} (hk : k < R.length) (m : Nat) :
 PrM (w.setCell ⟨rg, k * 3 + 2, none⟩ (.int .i64 (m : Int))) base pb lv pv ov (.slice (some ⟨rg, 0, none⟩) R.length cr) L P O (R.set k ⟨(gR R k).a, (gR R k).m, m⟩) ∧ Kept (fun b => b = rg) w (w.setCell ⟨rg, k * 3 + 2, none⟩ (.int .i64 (m : Int))) := by
 have oR : w.ownsRow base 164 3 (.slice (some ⟨rg, 0, none⟩) R.length cr) R.length (rCells R) := h.own
 obtain ⟨o1, h2⟩ := oR.stored (k * 3 + 2) (.int .i64 (m : Int))
 have k5 : Kept (fun b => b = rg) w (w.setCell ⟨rg, k * 3 + 2, none⟩ (.int .i64 (m : Int))) := (kept_of_grown h2).mono (fun b hb => by injection hb with hb; exact hb.symm)
 have o5 : OwnR (w.setCell ⟨rg, k * 3 + 2, none⟩ (.int .i64 (m : Int))) base (.slice (some ⟨rg, 0, none⟩) R.length cr) (R.set k ⟨(gR R k).a, (gR R k).m, m⟩) := by
  unfold OwnR
  rw [List.length_set, ← rCells_end R k hk]
  exact o1
 refine ⟨⟨(k5.block pb (lt_of_block h.blk) (fun e => h.notpb rg (.inr (.inr (.inr rfl))) e.symm)).trans h.blk, h.ge, h.rws.kept k5 (fun j hj b hb e => ?_), o5⟩, k5⟩
 exact own_ne (show w.ownsRow base 3 1 _ _ (nCells _) from h.rws.own j hj) oR (by decide) b hb (by rw [e]; rfl)
theorem PrM.setL {lg nl cl : Nat} (h : PrM w base pb (.slice (some ⟨lg, 0, none⟩) nl cl) pv ov rv L P O R) (i x : Nat) :
 PrM (w.setCell ⟨lg, i, none⟩ (.int .i64 (x : Int))) base pb (.slice (some ⟨lg, 0, none⟩) nl cl) pv ov rv (L.set i x) P O R := by
 have oL : w.ownsRow base 3 1 (.slice (some ⟨lg, 0, none⟩) nl cl) L.length (nCells L) := h.rws.own 0 (by simp)
 have oR : w.ownsRow base 164 3 rv R.length (rCells R) := h.own
 have k5 : Kept (fun b => b = lg) w (w.setCell ⟨lg, i, none⟩ (.int .i64 (x : Int))) := (Kept.refl (fun b => b = lg) w).setCell (p := ⟨lg, i, none⟩) rfl _
 exact ⟨(k5.block pb (lt_of_block h.blk) (fun e => h.notpb lg (.inl rfl) e.symm)).trans h.blk, h.ge, h.rws.store (i := 0) (by simp) rfl i x, own_kept h.own k5 (fun b hb e => own_ne oR oL (by decide) b hb (by rw [e]; rfl))⟩
theorem PrM.setPO {pg np cp og no co : Nat} (h : PrM w base pb lv (.slice (some ⟨pg, 0, none⟩) np cp) (.slice (some ⟨og, 0, none⟩) no co) rv L P O R) (s i k : Nat) :
 PrM ((w.setCell ⟨pg, s, none⟩ (.int .i64 (i : Int))).setCell ⟨og, s, none⟩ (.int .i64 (k : Int))) base pb lv (.slice (some ⟨pg, 0, none⟩) np cp) (.slice (some ⟨og, 0, none⟩) no co) rv L (P.set s i) (O.set s k) R := by
 have oP : w.ownsRow base 3 1 (.slice (some ⟨pg, 0, none⟩) np cp) P.length (nCells P) := h.rws.own 1 (by simp)
 have oO : w.ownsRow base 3 1 (.slice (some ⟨og, 0, none⟩) no co) O.length (nCells O) := h.rws.own 2 (by simp)
 have oR : w.ownsRow base 164 3 rv R.length (rCells R) := h.own
 have k5 : Kept (fun b => b = pg ∨ b = og) w ((w.setCell ⟨pg, s, none⟩ (.int .i64 (i : Int))).setCell ⟨og, s, none⟩ (.int .i64 (k : Int))) := ((Kept.refl (fun b => b = pg ∨ b = og) w).setCell (p := ⟨pg, s, none⟩) (.inl rfl) _).setCell (p := ⟨og, s, none⟩) (.inr rfl) _
 refine ⟨(k5.block pb (lt_of_block h.blk) (fun e => ?_)).trans h.blk, h.ge, (h.rws.store (i := 1) (by simp) rfl s i).store (i := 2) (by simp) rfl s k, own_kept h.own k5 (fun b hb e => ?_)⟩
 · rcases e with e | e
   · exact h.notpb pg (.inr (.inl rfl)) e.symm
   · exact h.notpb og (.inr (.inr (.inl rfl))) e.symm
 · rcases e with e | e
   · exact own_ne oR oP (by decide) b hb (by rw [e]; rfl)
   · exact own_ne oR oO (by decide) b hb (by rw [e]; rfl)
end
theorem four_alloc (V : World) (a b c d : Array Value) (T T' T2 T3 : TypeId) : Below V.heap.size V ((((V.alloc (.cells a T)).alloc (.cells b T')).alloc (.cells c T2)).alloc (.cells d T3)).drew ∧ ((((V.alloc (.cells a T)).alloc (.cells b T')).alloc (.cells c T2)).alloc (.cells d T3)).drew.heap[V.heap.size]? = some (.cells a T (0, 0)) ∧ ((((V.alloc (.cells a T)).alloc (.cells b T')).alloc (.cells c T2)).alloc (.cells d T3)).drew.heap[V.heap.size + 1]? = some (.cells b T' (0, 0)) ∧ ((((V.alloc (.cells a T)).alloc (.cells b T')).alloc (.cells c T2)).alloc (.cells d T3)).drew.heap[V.heap.size + 1 + 1]? = some (.cells c T2 (0, 0)) ∧ ((((V.alloc (.cells a T)).alloc (.cells b T')).alloc (.cells c T2)).alloc (.cells d T3)).drew.heap[V.heap.size + 1 + 1 + 1]? = some (.cells d T3 (0, 0)) := by
 obtain ⟨x, b1, b2, hs⟩ := two_alloc' V a b T T'
 generalize (V.alloc (.cells a T)).alloc (.cells b T') = wa at *
 obtain ⟨y, c1, c2, hs2⟩ := two_alloc' wa c d T2 T3
 rw [hs] at c1 c2
 exact ⟨(bt x y (Nat.le_refl _)).drew, (y.block _ (lt_of_block b1)).trans b1, (y.block _ (lt_of_block b2)).trans b2, c1, c2⟩
theorem PrM.mk4 {w0 V wx : World} {n pb lg pg og : Nat} (hm : n ≤ maxLen) (x0 : w0.heap.size ≤ V.heap.size) (h1 : wx.heap[pb]? = some (.cells #[.slice (some ⟨lg, 0, none⟩) n n, .slice (some ⟨pg, 0, none⟩) n n, .slice (some ⟨og, 0, none⟩) n n, .slice none 0 0] 161 (0, 0))) (h2 : wx.heap[lg]? = some (.cells (madeCells #[.int .i64 0] n) 3 (0, 0))) (h3 : wx.heap[pg]? = some (.cells (madeCells #[.int .i64 0] n) 3 (0, 0))) (h4 : wx.heap[og]? = some (.cells (madeCells #[.int .i64 0] n) 3 (0, 0))) (n1 : ¬ lg = pg) (n2 : ¬ lg = og) (n3 : ¬ pg = og) (g1 : V.heap.size ≤ pb) (g2 : V.heap.size ≤ lg) (g3 : V.heap.size ≤ pg) (g4 : V.heap.size ≤ og) :
 PrM wx w0.heap.size pb (.slice (some ⟨lg, 0, none⟩) n n) (.slice (some ⟨pg, 0, none⟩) n n) (.slice (some ⟨og, 0, none⟩) n n) (.slice none 0 0) (List.replicate n 0) (List.replicate n 0) (List.replicate n 0) [] := by
 refine ⟨h1, by omega, ⟨fun j hj => ?_, fun j hj k hk hne b hb hb2 => ?_⟩, World.ownsRow_nil _ _ _ _⟩
 · match j, hj with
   | 0, _ => exact made_own wx w0.heap.size lg n (by omega) hm h2
   | 1, _ => exact made_own wx w0.heap.size pg n (by omega) hm h3
   | 2, _ => exact made_own wx w0.heap.size og n (by omega) hm h4
 · match j, hj, k, hk with
   | 0, _, 0, _ => exact hne rfl
   | 0, _, 1, _ => exact n1 (by have a : lg = b := Option.some.inj hb; have c : pg = b := Option.some.inj hb2; omega)
   | 0, _, 2, _ => exact n2 (by have a : lg = b := Option.some.inj hb; have c : og = b := Option.some.inj hb2; omega)
   | 1, _, 0, _ => exact n1 (by have a : pg = b := Option.some.inj hb; have c : lg = b := Option.some.inj hb2; omega)
   | 1, _, 1, _ => exact hne rfl
   | 1, _, 2, _ => exact n3 (by have a : pg = b := Option.some.inj hb; have c : og = b := Option.some.inj hb2; omega)
   | 2, _, 0, _ => exact n2 (by have a : og = b := Option.some.inj hb; have c : lg = b := Option.some.inj hb2; omega)
   | 2, _, 1, _ => exact n3 (by have a : og = b := Option.some.inj hb; have c : pg = b := Option.some.inj hb2; omega)
   | 2, _, 2, _ => exact hne rfl
theorem addr_add' (b off n : Nat) : (⟨b, off, none⟩ : Addr).add n = ⟨b, off + n, none⟩ := by unfold Addr.add; split <;> simp_all
theorem NAt.cells {w : World} {a : Addr} {L : List Nat} (h : NAt w (some a) L) : ∀ j u, (nCells L)[j]? = some u → w.cell? (a.add j) = some u := fun j u hu => by
 have hj : j < L.length := by
  rcases Nat.lt_or_ge j L.length with h1 | h1
  · exact h1
  · rw [List.getElem?_eq_none (by rw [nCells_length]; exact h1)] at hu; cases hu
 obtain ⟨b, off, e, _, c⟩ := h.get hj
 injection e with e
 subst e
 rw [nCells_get L j hj] at hu
 rw [addr_add', c]
 exact hu
theorem nCells_one (L : List Nat) : ∀ u ∈ nCells L, u.oneCell' = true := fun u hu => by
 obtain ⟨n, _, rfl⟩ := List.mem_map.1 hu
 simp [Value.oneCell']
theorem cloneN_any (a : Addr) (cap : Nat) (L : List Nat) (w : World) (hl : L.length ≤ 65536) (hat : NAt w (some a) L) :
 Calls Tryz.prog 116 #[.slice (some a) L.length cap] w fun e w' => (∃ v', e = .returned v' ∧ OwnN w' w.heap.size v' L) ∧ Below w.heap.size w w' := by
 obtain ⟨i3, hi3, hz30, hz31, hz32⟩ := info_parts Tryz.info3n
 have hnil := fun (a : Option Addr) (n c : Nat) (W : World) => run_eql_slice_nil (P := Tryz.prog) W 22 3 a n c 0 0 Tryz.underlying22
 have hb1 : Below w.heap.size w (w.alloc (.cells #[] 3)) := (Below.refl _ _).alloc (Nat.le_refl _) _
 have HN := hide (hat.below hb1).cells
 have HO : Hid ((w.alloc (.cells #[] 3)).ownsRow w.heap.size 3 1 (.slice (some ⟨w.heap.size, 0, none⟩) 0 0) 0 []) := ⟨rfl, .inr ⟨w.heap.size, 0, #[], rfl, Nat.le_refl _, by show (w.heap.push _)[_]? = _; simp, Nat.le_refl _, by decide, rfl, rfl⟩⟩
 have HB := hide hb1
 have HL : Hid ((nCells L).length = L.length * 1) := by unfold Hid; rw [nCells_length, Nat.mul_one]
 clear hat hb1
 go_enter Tryz.func116, Tryz.ntmps116
 go_wp2_with (at_builtin; refine wpList_append_own_at _ rfl (.tmp 5) (.tmp 6) 22 rfl w.heap.size 3 i3 (.int .i64 0) 1 8 Tryz.underlying22 hi3 hz30 hz31 hz32 rfl (by decide) _ 0 [] rfl HO.out a L.length cap (nCells L) rfl HL.out HN.out (nCells_one L) (by unfold maxLen; omega) (by omega) HB.out.size ?_; intro v8 w8 h1 h2 _ h3; have H1 := hide h1; have H2 := hide h2; clear h1 h2 h3)
 go_ret
 refine ⟨⟨_, rfl, ?_⟩, HB.out.grown H2.out HB.out.size (fun k hk => by cases hk; exact Nat.le_refl _)⟩
 have := H1.out
 rw [Nat.zero_add, List.nil_append] at this
 exact this
theorem idx_two (c : UInt8) : decide (0 ≤ Lib.indexByte [93, 45] ((c.toNat : Int).toNat.toUInt8)) = ([93].isPrefixOf [c] || [45].isPrefixOf [c]) := by
 rw [Int.toNat_natCast]
 show decide (0 ≤ Lib.indexByte [93, 45] (UInt8.ofNat c.toNat)) = _
 rw [UInt8.ofNat_toNat]
 unfold Lib.indexByte Lib.indexByte Lib.indexByte
 simp only [List.isPrefixOf, Bool.and_true]
 by_cases h1 : (93 == c) = true
 · simp [h1]
 · by_cases h2 : (45 == c) = true
   · simp [h1, h2]
   · simp [h1, h2]
theorem sees_any (rb : Nat) (p r : By) (w : World) (hl : (p ++ r).length ≤ 140737488351232) (h : RdAt w rb p r) :
 Calls Tryz.prog 164 #[.pointer (some ⟨rb, 0, none⟩), .string ⟨#[93, 45]⟩] w fun e w' => e = .returned (.bool ([93].isPrefixOf r || [45].isPrefixOf r)) ∧ Below w.heap.size w w' := by
 have c0 := h.c0
 have c1 := h.c1
 clear h
 cases r with
 | nil =>
   rw [List.append_nil] at c0
   go_enter Tryz.func164, Tryz.ntmps164
   go_wp2
   go_quiet (fail)
   go_wp2
   go_ret
   exact ⟨rfl, below_drewN _ _ _⟩
 | cons c r =>
   have hpl : p.length < (p ++ c :: r).length := by rw [List.length_append, List.length_cons]; omega
   have z1 : (p.length : Int) < ((p ++ c :: r).length : Int) := by omega
   obtain ⟨s, HS⟩ : ∃ s, Hid (s = p ++ c :: r) := ⟨_, rfl⟩
   have hg' : ∀ hk, (⟨s.toArray⟩ : ByteArray)[p.length]'hk = c := by rw [HS.out]; exact fun _ => (by rw [idx_str]; simp)
   rw [← HS.out] at c0 z1 hl hpl
   have HI := hide (fun w => idxByte_any [93, 45] (c.toNat : Int) w)
   have HT := hide (idx_two c)
   have HE : Hid (([93].isPrefixOf (c :: r) || [45].isPrefixOf (c :: r)) = ([93].isPrefixOf [c] || [45].isPrefixOf [c])) := by simp [Hid, List.isPrefixOf]
   generalize Lib.indexByte [93, 45] ((c.toNat : Int).toNat.toUInt8) = i at HI HT
   go_enter Tryz.func164, Tryz.ntmps164
   go_wp2
   go_region_held3 (fun w' => w'.cell? ⟨rb, 0, none⟩ = some (.string ⟨s.toArray⟩) ∧ w'.cell? ⟨rb, 1, none⟩ = some (.int .i64 (p.length : Nat))) (first | assumption | (simp [go_sem, *]; done))
    (first | (go_at_call 100; refine (HI.out _).mono ?_; rintro e w2 ⟨rfl, hw2⟩; subst hw2))
   go_wp2
   go_ret
   refine ⟨?_, ?_⟩
   · show Ending.returned (Value.bool (decide (0 ≤ i))) = _
     rw [HE.out, ← HT.out]
   · exact ⟨rfl, rfl, rfl, Nat.le_refl _, fun _ _ => rfl⟩
def RdS (w : World) (rb : Nat) (s r : By) : Prop := ∃ q, s = q ++ r ∧ RdAt w rb q r
theorem RdS.below {w w' : World} {rb : Nat} {s r : By} (h : RdS w rb s r) (x : Below w.heap.size w w') : RdS w' rb s r := by
 obtain ⟨q, h1, h2⟩ := h
 exact ⟨q, h1, h2.below x⟩
theorem RdS.kept {F : Nat → Prop} {w w' : World} {rb : Nat} {s r : By} (h : RdS w rb s r) (x : Kept F w w') (hF : ¬ F rb) : RdS w' rb s r := by
 obtain ⟨q, h1, h2⟩ := h
 exact ⟨q, h1, h2.kept x hF⟩
theorem RdS.lt {w : World} {rb : Nat} {s r : By} (h : RdS w rb s r) : rb < w.heap.size := by
 obtain ⟨q, h1, h2⟩ := h
 exact lt_of_block h2
theorem RdS.len {w : World} {rb : Nat} {s r : By} (h : RdS w rb s r) : r.length ≤ s.length := by
 obtain ⟨q, h1, h2⟩ := h
 rw [h1, List.length_append]; omega
theorem skip_s (rb : Nat) (s q r : By) (w : World) (hl : s.length ≤ 140737488351232) (hq : q.length ≤ 8) (h : RdS w rb s r) :
 Calls Tryz.prog 91 #[.pointer (some ⟨rb, 0, none⟩), .string ⟨q.toArray⟩] w fun e w' => e = .returned (.bool (q.isPrefixOf r)) ∧ RdS w' rb s (if q.isPrefixOf r = true then r.drop q.length else r) ∧ Kept (fun k => k = rb) w w' := by
 obtain ⟨p, rfl, h2⟩ := h
 refine (skip_any rb p q r w hl hq h2).mono fun e w' ⟨h3, h4, h5, h6⟩ => ⟨h3, ?_, h6⟩
 cases hb : q.isPrefixOf r with
 | true =>
   rw [if_pos rfl]
   refine ⟨p ++ q, ?_, h4 hb⟩
   obtain ⟨t, rfl⟩ := List.isPrefixOf_iff_prefix.1 hb
   simp
 | false => rw [if_neg (by decide)]; exact ⟨p, rfl, h5 hb⟩
def TkIs (rb : Nat) (s : By) (x : Except By (UInt8 × By)) (e : Ending) (w' : World) : Prop := match x with
 | .ok (c, t) => e = .returned (.tuple #[.int .i64 (c.toNat : Nat), .bool true]) ∧ RdS w' rb s t
 | .error t => e = .returned (.tuple #[.int .i64 0, .bool false]) ∧ RdS w' rb s t
theorem take_s (rb : Nat) (s r : By) (least : Nat) (w : World) (hl : s.length ≤ 140737488351232) (h : RdS w rb s r) :
 Calls Tryz.prog 93 #[.pointer (some ⟨rb, 0, none⟩), .int .i64 (least : Nat)] w fun e w' => TkIs rb s (tkL least r) e w' ∧ Kept (fun k => k = rb) w w' := by
 obtain ⟨p, rfl, h2⟩ := h
 cases r with
 | nil => exact (take_end rb p least w h2).mono fun e w' ⟨h3, h4, h5⟩ => ⟨⟨h3, p, rfl, h4⟩, h5⟩
 | cons c r =>
   refine (take_any rb p r c least w hl h2).mono fun e w' ⟨h3, h4⟩ => ⟨?_, h4⟩
   have e0 : tkL least (c :: r) = if least ≤ c.toNat ∧ c.toNat ≤ 126 then .ok (c, r) else .error (c :: r) := rfl
   rw [e0]
   rcases h3 with ⟨h5, h6, h7, h8⟩ | ⟨h5, h7, h8⟩
   · rw [if_pos ⟨by omega, h6⟩]
     exact ⟨h7, p ++ [c], by simp, h8⟩
   · rw [if_neg (fun h => h5 ⟨by omega, h.2⟩)]
     exact ⟨h7, p, rfl, h8⟩
theorem sees_s (rb : Nat) (s r : By) (w : World) (hl : s.length ≤ 140737488351232) (h : RdS w rb s r) :
 Calls Tryz.prog 164 #[.pointer (some ⟨rb, 0, none⟩), .string ⟨#[93, 45]⟩] w fun e w' => e = .returned (.bool ([93].isPrefixOf r || [45].isPrefixOf r)) ∧ RdS w' rb s r ∧ Kept (fun k => k = rb) w w' := by
 have h0 := h
 obtain ⟨p, rfl, h2⟩ := h
 exact (sees_any rb p r w hl h2).mono fun e w' ⟨h3, h4⟩ => ⟨h3, h0.below h4, Kept.of_below h4⟩
theorem member_s (rb : Nat) (s r : By) (least : Nat) (w : World) (hl : s.length ≤ 140737488351232) (h : RdS w rb s r) :
 Calls Tryz.prog 144 #[.pointer (some ⟨rb, 0, none⟩), .int .i64 (least : Nat)] w fun e w' => TkIs rb s (mbL least r) e w' ∧ Kept (fun k => k = rb) w w' := by
 have h1 := skip_s rb s [92] r w hl (by decide) h
 have H1 := hide h1
 clear h1 h
 cases hb : [92].isPrefixOf r with
 | true =>
   have HE : Hid (mbL least r = tkL least (r.drop 1)) := by unfold Hid mbL; rw [if_pos hb]
   rw [hb, if_pos rfl] at H1
   clear hb
   go_enter Tryz.func144, Tryz.ntmps144
   go_wp2_with (fail)
   refine H1.out.mono ?_
   rintro e w2 ⟨rfl, r2, k2⟩
   have K2 := hide k2
   have H3 := hide (take_s rb s _ least w2 hl r2)
   clear r2 k2 H1
   go_wp2_with (fail)
   refine H3.out.mono ?_
   rintro e w3 ⟨h3, k3⟩
   have K3 := hide (K2.out.trans k3)
   rw [show List.length [(92 : UInt8)] = 1 from rfl, ← HE.out] at h3
   clear k3 H3
   cases hm : mbL least r with
   | ok x =>
     obtain ⟨c, t⟩ := x
     rw [hm] at h3
     obtain ⟨rfl, r3⟩ := h3
     have R3 := hide r3
     have HM := hide hm
     clear r3 hm HE
     go_wp2
     go_ret2
     refine ⟨?_, K3.out⟩
     unfold TkIs
     rw [HM.out]
     exact ⟨rfl, R3.out⟩
   | error t =>
     rw [hm] at h3
     obtain ⟨rfl, r3⟩ := h3
     have R3 := hide r3
     have HM := hide hm
     clear r3 hm HE
     go_wp2
     go_ret2
     refine ⟨?_, K3.out⟩
     unfold TkIs
     rw [HM.out]
     exact ⟨rfl, R3.out⟩
 | false =>
   rw [hb, if_neg (by decide)] at H1
   cases hc : ([93].isPrefixOf r || [45].isPrefixOf r) with
   | true =>
     have HE : Hid (mbL least r = .error r) := by unfold Hid mbL; rw [if_neg (by rw [hb]; decide), if_pos hc]
     have H2 := hide (fun w' (h : RdS w' rb s r) => sees_s rb s r w' hl h)
     rw [hc] at H2
     clear hb hc
     go_enter Tryz.func144, Tryz.ntmps144
     go_wp2_with (fail)
     refine H1.out.mono ?_
     rintro e w2 ⟨rfl, r2, k2⟩
     have K2 := hide k2
     have H3 := hide (H2.out w2 r2)
     clear r2 k2 H1 H2
     go_wp2_with (fail)
     refine H3.out.mono ?_
     rintro e w3 ⟨rfl, r3, k3⟩
     have K3 := hide (K2.out.trans k3)
     have R3 := hide r3
     clear r3 k3 H3
     go_wp2
     go_ret2
     rw [HE.out]
     exact ⟨⟨rfl, R3.out⟩, K3.out⟩
   | false =>
     have HE : Hid (mbL least r = tkL least r) := by unfold Hid mbL; rw [if_neg (by rw [hb]; decide), if_neg (by rw [hc]; decide)]
     have H2 := hide (fun w' (h : RdS w' rb s r) => sees_s rb s r w' hl h)
     rw [hc] at H2
     clear hb hc
     go_enter Tryz.func144, Tryz.ntmps144
     go_wp2_with (fail)
     refine H1.out.mono ?_
     rintro e w2 ⟨rfl, r2, k2⟩
     have K2 := hide k2
     have H3 := hide (H2.out w2 r2)
     clear r2 k2 H1 H2
     go_wp2_with (fail)
     refine H3.out.mono ?_
     rintro e w3 ⟨rfl, r3, k3⟩
     have K3 := hide (K2.out.trans k3)
     have H4 := hide (take_s rb s r least w3 hl r3)
     clear r3 k3 H3
     go_wp2_with (fail)
     refine H4.out.mono ?_
     rintro e w4 ⟨h4, k4⟩
     have K4 := hide (K3.out.trans k4)
     rw [← HE.out] at h4
     clear k4 H4
     cases hm : mbL least r with
     | ok x =>
       obtain ⟨c, t⟩ := x
       rw [hm] at h4
       obtain ⟨rfl, r3⟩ := h4
       have R3 := hide r3
       have HM := hide hm
       clear r3 hm HE
       go_wp2
       go_ret2
       refine ⟨?_, K4.out⟩
       unfold TkIs
       rw [HM.out]
       exact ⟨rfl, R3.out⟩
     | error t =>
       rw [hm] at h4
       obtain ⟨rfl, r3⟩ := h4
       have R3 := hide r3
       have HM := hide hm
       clear r3 hm HE
       go_wp2
       go_ret2
       refine ⟨?_, K4.out⟩
       unfold TkIs
       rw [HM.out]
       exact ⟨rfl, R3.out⟩
def ItIs (rb : Nat) (s : By) (x : Except By (Spn × By)) (e : Ending) (w' : World) : Prop := match x with
 | .ok (p, t) => e = .returned (.tuple #[.agg #[.int .i64 p.1, .int .i64 p.2], .bool true]) ∧ RdS w' rb s t
 | .error t => (∃ a b : Int, e = .returned (.tuple #[.agg #[.int .i64 a, .int .i64 b], .bool false])) ∧ RdS w' rb s t
theorem TkIs.ok {rb : Nat} {s t : By} {x : Except By (UInt8 × By)} {c : UInt8} {e : Ending} {w' : World} (h : TkIs rb s x e w') (hx : x = .ok (c, t)) : e = .returned (.tuple #[.int .i64 (c.toNat : Nat), .bool true]) ∧ RdS w' rb s t := by subst hx; exact h
theorem TkIs.err {rb : Nat} {s t : By} {x : Except By (UInt8 × By)} {e : Ending} {w' : World} (h : TkIs rb s x e w') (hx : x = .error t) : e = .returned (.tuple #[.int .i64 0, .bool false]) ∧ RdS w' rb s t := by subst hx; exact h
theorem item_s (rb : Nat) (s r : By) (w : World) (hl : s.length ≤ 140737488351232) (h : RdS w rb s r) :
 Calls Tryz.prog 125 #[.pointer (some ⟨rb, 0, none⟩)] w fun e w' => ItIs rb s (itL r) e w' ∧ Kept (fun k => k = rb) w w' := by
 have X0 := hide (al (Below.refl w.heap.size w) (.cells #[.int .i64 0, .int .i64 0] 175))
 have B0 := hide (heap_alloc_new w (.cells #[.int .i64 0, .int .i64 0] 175))
 have H1 := hide (member_s rb s r 32 (w.alloc (.cells #[.int .i64 0, .int .i64 0] 175)) hl (h.below X0.out))
 have HRL : Hid (w.heap.size ≠ rb) := by have := h.lt; unfold Hid; omega
 clear h
 go_enter Tryz.func125, Tryz.ntmps125
 go_wp2_with (fail)
 refine H1.out.mono ?_
 rintro e w2 ⟨h2, k2⟩
 have K2 := hide k2
 have B2 := hide ((k2.block _ (lt_of_block B0.out) HRL.out).trans B0.out)
 clear k2 H1
 have KW := hide ((Kept.of_below X0.out : Kept (fun k => k = rb) _ _).trans K2.out)
 have HKF := hide (fun (W W' : World) (h : Kept (fun k => k = rb) w W) (h' : Kept (fun k => k = w.heap.size) W W') => (Kept.trans_new h h' (fun i hi hg => by rw [hg] at hi; exact absurd hi (Nat.lt_irrefl _)) : Kept (fun k => k = rb) w W'))
 cases hm : mbL 32 r with
 | error t =>
   obtain ⟨rfl, r2⟩ := h2.err hm
   have HE : Hid (itL r = .error t) := by unfold Hid itL; rw [hm]
   clear h2 hm
   obtain ⟨c0, f0, c1, f1, d0, d1, k3⟩ := st2 B2.out (.int .i64 0) (.int .i64 0)
   have R3 := hide (r2.kept k3 (fun h => HRL.out h.symm))
   have K3 := hide (HKF.out _ _ KW.out k3)
   clear r2 k3
   go_wp2
   refine bodyPost_ret (by simp [results, Tryz.results125, go_sem, d0, d1]; try rfl) rfl ?_
   refine ⟨?_, K3.out⟩
   rw [HE.out]
   exact ⟨⟨0, 0, rfl⟩, R3.out⟩
 | ok x =>
   obtain ⟨lo, t⟩ := x
   obtain ⟨rfl, r2⟩ := h2.ok hm
   have H3 := hide (skip_s rb s [45] t w2 hl (by decide) r2)
   clear h2 r2
   cases hb : [45].isPrefixOf t with
   | false =>
     have HE : Hid (itL r = .ok ((((lo.toNat : Nat) : Int), ((lo.toNat : Nat) : Int)), t)) := by unfold Hid itL; rw [hm]; simp only; rw [if_neg (by rw [hb]; decide)]
     rw [hb, if_neg (by decide)] at H3
     clear hm hb
     go_wp2_with (fail)
     refine H3.out.mono ?_
     rintro e w3 ⟨rfl, r3, k3⟩
     have B3 := hide ((k3.block _ (lt_of_block B2.out) HRL.out).trans B2.out)
     have KW3 := hide (KW.out.trans k3)
     obtain ⟨c0, f0, c1, f1, d0, d1, k4⟩ := st2 B3.out (.int .i64 (lo.toNat : Nat)) (.int .i64 (lo.toNat : Nat))
     have R4 := hide (r3.kept k4 (fun h => HRL.out h.symm))
     have K4 := hide (HKF.out _ _ KW3.out k4)
     clear r3 k3 k4 H3
     go_wp2
     refine bodyPost_ret (by simp [results, Tryz.results125, go_sem, d0, d1]; try rfl) rfl ?_
     refine ⟨?_, K4.out⟩
     rw [HE.out]
     exact ⟨rfl, R4.out⟩
   | true =>
     rw [hb, if_pos rfl] at H3
     cases hn : mbL lo.toNat (t.drop 1) with
     | error u =>
       have HE : Hid (itL r = .error u) := by unfold Hid itL; rw [hm]; simp only; rw [if_pos hb, hn]
       have HN := hide hn
       clear hm hb hn
       go_wp2_with (fail)
       refine H3.out.mono ?_
       rintro e w3 ⟨rfl, r3, k3⟩
       have B3 := hide ((k3.block _ (lt_of_block B2.out) HRL.out).trans B2.out)
       have KW3 := hide (KW.out.trans k3)
       have H4 := hide (member_s rb s _ lo.toNat w3 hl r3)
       clear r3 k3 H3
       go_wp2_with (fail)
       refine H4.out.mono ?_
       rintro e w4 ⟨h4, k4⟩
       obtain ⟨rfl, r4⟩ := h4.err HN.out
       have B4 := hide ((k4.block _ (lt_of_block B3.out) HRL.out).trans B3.out)
       have KW4 := hide (KW3.out.trans k4)
       obtain ⟨c0, f0, c1, f1, d0, d1, k5⟩ := st2 B4.out (.int .i64 (lo.toNat : Nat)) (.int .i64 0)
       have R5 := hide (r4.kept k5 (fun h => HRL.out h.symm))
       have K5 := hide (HKF.out _ _ KW4.out k5)
       clear r4 k4 k5 h4 H4
       go_wp2
       refine bodyPost_ret (by simp [results, Tryz.results125, go_sem, d0, d1]; try rfl) rfl ?_
       refine ⟨?_, K5.out⟩
       rw [HE.out]
       exact ⟨⟨_, 0, rfl⟩, R5.out⟩
     | ok x =>
       obtain ⟨hi, u⟩ := x
       have HE : Hid (itL r = .ok ((((lo.toNat : Nat) : Int), ((hi.toNat : Nat) : Int)), u)) := by unfold Hid itL; rw [hm]; simp only; rw [if_pos hb, hn]
       have HN := hide hn
       clear hm hb hn
       go_wp2_with (fail)
       refine H3.out.mono ?_
       rintro e w3 ⟨rfl, r3, k3⟩
       have B3 := hide ((k3.block _ (lt_of_block B2.out) HRL.out).trans B2.out)
       have KW3 := hide (KW.out.trans k3)
       have H4 := hide (member_s rb s _ lo.toNat w3 hl r3)
       clear r3 k3 H3
       go_wp2_with (fail)
       refine H4.out.mono ?_
       rintro e w4 ⟨h4, k4⟩
       obtain ⟨rfl, r4⟩ := h4.ok HN.out
       have B4 := hide ((k4.block _ (lt_of_block B3.out) HRL.out).trans B3.out)
       have KW4 := hide (KW3.out.trans k4)
       obtain ⟨c0, f0, c1, f1, d0, d1, k5⟩ := st2 B4.out (.int .i64 (lo.toNat : Nat)) (.int .i64 (hi.toNat : Nat))
       have R5 := hide (r4.kept k5 (fun h => HRL.out h.symm))
       have K5 := hide (HKF.out _ _ KW4.out k5)
       clear r4 k4 k5 h4 H4
       go_wp2
       refine bodyPost_ret (by simp [results, Tryz.results125, go_sem, d0, d1]; try rfl) rfl ?_
       refine ⟨?_, K5.out⟩
       rw [HE.out]
       exact ⟨rfl, R5.out⟩
end Go.Proofs.YtdgoilkgplnhfaaGreat
