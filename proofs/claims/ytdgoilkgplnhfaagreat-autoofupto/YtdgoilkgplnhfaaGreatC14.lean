/-
  One split of parts by what leads to some states by a column: marks, then cuts. Of no program: no condition.
-/
import Derived.Test.YtdgoilkgplnhfaaGreatC13
set_option maxRecDepth 100000
set_option maxHeartbeats 16000000
namespace Go.Proofs.YtdgoilkgplnhfaaGreat
def TcS (R : List Rm) (Tc : List Nat) : Prop := (∀ k, k ∈ Tc ↔ k < R.length ∧ (gR R k).a < (gR R k).m) ∧ Tc.Nodup
theorem TcS.start {R : List Rm} (h : Plain R) : TcS R [] := ⟨fun k => ⟨fun hk => (by cases hk), fun hk => by have := h k hk.1; omega⟩, List.nodup_nil⟩
theorem TcS.more {R : List Rm} {Tc : List Nat} (h : TcS R Tc) {k : Nat} (hk : k < R.length) (hm : ¬ (gR R k).m = (gR R k).a) (ha : (gR R k).a ≤ (gR R k).m) : TcS (R.set k ⟨(gR R k).a, (gR R k).m + 1, (gR R k).e⟩) Tc := by
 refine ⟨fun j => ?_, h.2⟩
 rw [h.1, List.length_set, gR_set R hk]
 by_cases e : j = k
 · subst e
   rw [if_pos rfl]
   show _ ↔ _ ∧ (gR R j).a < (gR R j).m + 1
   omega
 · rw [if_neg e]
theorem TcS.first {R : List Rm} {Tc : List Nat} (h : TcS R Tc) {k : Nat} (hk : k < R.length) (hm : (gR R k).m = (gR R k).a) : TcS (R.set k ⟨(gR R k).a, (gR R k).m + 1, (gR R k).e⟩) (Tc ++ [k]) := by
 have hn : k ∉ Tc := fun hh => by have := (h.1 k).1 hh; omega
 refine ⟨fun j => ?_, ?_⟩
 · rw [List.mem_append, List.mem_singleton, h.1, List.length_set, gR_set R hk]
   by_cases e : j = k
   · subst e
     rw [if_pos rfl]
     show _ ↔ _ ∧ (gR R j).a < (gR R j).m + 1
     omega
   · rw [if_neg e]
     exact ⟨fun hh => hh.resolve_right e, .inl⟩
 · rw [List.nodup_append]
   exact ⟨h.2, by simp, fun a ha b hb e => hn (by rw [List.mem_singleton.1 hb] at e; rw [← e]; exact ha)⟩
theorem TcS.le {R : List Rm} {Tc : List Nat} (h : TcS R Tc) : Tc.length ≤ R.length :=
 pigeon R.length Tc.length (gN Tc) (fun i hi => by rw [gN_lt hi]; exact ((h.1 _).1 (List.getElem_mem hi)).1) (fun i hi j hj e => by
  rw [gN_lt hi, gN_lt hj] at e
  have hp := List.pairwise_iff_getElem.1 h.2
  rcases Nat.lt_trichotomy i j with h1 | h1 | h1
  · exact absurd e (hp i j hi hj h1)
  · exact h1
  · exact absurd e.symm (hp j i hj hi h1))
def mrk (n w c : Nat) (NX S F T : List Nat) (i p : Nat) (s : Nat) : Prop := s < n ∧ ((∃ j, j < i ∧ gN NX (s * w + c) = gN T j) ∨ (gN S (c * n + gN T i) ≤ gN S (c * n + gN T i) ∧ ∃ q, gN S (c * n + gN T i) ≤ q ∧ q < p ∧ q < gN S (c * n + gN T i + 1) ∧ gN F q = s))
section
variable {n w c : Nat} {NX S F T : List Nat}
theorem mrk.new (h : BkS n w NX S F) (hc : c < w) (hT : ∀ j, j < T.length → gN T j < n) (hd : ∀ i, i < T.length → ∀ j, j < T.length → gN T i = gN T j → i = j) {i p : Nat} (hi : i < T.length) (h1 : gN S (c * n + gN T i) ≤ p) (h2 : p < gN S (c * n + gN T i + 1)) : gN F p < n ∧ ¬ mrk n w c NX S F T i p (gN F p) := by
 obtain ⟨a, b⟩ := h.tgt c hc _ (hT i hi) p h1 h2
 refine ⟨a, fun ⟨_, hh⟩ => ?_⟩
 rcases hh with ⟨j, hj, e⟩ | ⟨_, q, e1, e2, e3, e4⟩
 · have := hd i hi j (by omega) (by rw [← b, e])
   omega
 · have := h.nd c hc _ (hT i hi) q p e1 e3 h1 h2 e4
   omega
theorem mrk.next {i p s : Nat} (h1 : gN S (c * n + gN T i) ≤ p) (h2 : p < gN S (c * n + gN T i + 1)) (hn : gN F p < n) : mrk n w c NX S F T i (p + 1) s ↔ (mrk n w c NX S F T i p s ∨ s = gN F p) := by
 constructor
 · rintro ⟨a, hh | ⟨b, q, e1, e2, e3, e4⟩⟩
   · exact .inl ⟨a, .inl hh⟩
   · by_cases e : q = p
     · exact .inr (by rw [← e4, e])
     · exact .inl ⟨a, .inr ⟨b, q, e1, by omega, e3, e4⟩⟩
 · rintro (⟨a, hh | ⟨b, q, e1, e2, e3, e4⟩⟩ | hh)
   · exact ⟨a, .inl hh⟩
   · exact ⟨a, .inr ⟨b, q, e1, by omega, e3, e4⟩⟩
   · exact ⟨by rw [hh]; exact hn, .inr ⟨Nat.le_refl _, p, h1, by omega, h2, hh.symm⟩⟩
theorem mrk.row (h : BkS n w NX S F) (hc : c < w) (hT : ∀ j, j < T.length → gN T j < n) {i s : Nat} (hi : i < T.length) : mrk n w c NX S F T i (gN S (c * n + gN T i + 1)) s ↔ (s < n ∧ ∃ j, j < i + 1 ∧ gN NX (s * w + c) = gN T j) := by
 constructor
 · rintro ⟨a, ⟨j, hj, e⟩ | ⟨_, q, e1, _, e3, e4⟩⟩
   · exact ⟨a, j, by omega, e⟩
   · exact ⟨a, i, by omega, by rw [← e4]; exact (h.tgt c hc _ (hT i hi) q e1 e3).2⟩
 · rintro ⟨a, j, hj, e⟩
   by_cases e2 : j = i
   · subst e2
     obtain ⟨p, p1, p2, p3⟩ := h.on c hc s a
     rw [e] at p1 p2
     exact ⟨a, .inr ⟨Nat.le_refl _, p, p1, p2, p2, p3⟩⟩
   · exact ⟨a, .inl ⟨j, by omega, e⟩⟩
theorem mrk.begin {i s : Nat} : mrk n w c NX S F T i (gN S (c * n + gN T i)) s ↔ (s < n ∧ ∃ j, j < i ∧ gN NX (s * w + c) = gN T j) := by
 constructor
 · rintro ⟨a, hh | ⟨_, q, e1, e2, _⟩⟩
   · exact ⟨a, hh⟩
   · omega
 · rintro ⟨a, hh⟩
   exact ⟨a, .inl hh⟩
end
theorem MkS.congr {n : Nat} {P O : List Nat} {R : List Rm} {M M' : Nat → Prop} (h : MkS n P O R M) (e : ∀ s, s < n → (M' s ↔ M s)) : MkS n P O R M' := fun s hs => (e s hs).trans (h s hs)
theorem MkS.plain {n : Nat} {L P O : List Nat} {R : List Rm} (h : PtS n L P O R) (hp : Plain R) : MkS n P O R (fun _ => False) := fun s hs => by
 have h1 := h.os s hs
 have := hp _ h1.1
 exact ⟨fun hh => hh.elim, fun hh => by omega⟩
theorem PtS.alone {n : Nat} {L P O : List Nat} {R : List Rm} (h : PtS n L P O R) (hn : R.length = n) : ∀ s, s < n → ∀ t, t < n → gN O s = gN O t → s = t := fun s hs t ht e => by
 refine Classical.byContradiction fun hne => ?_
 have hf : ∀ k, k < R.length → gN L (gR R k).a < n ∧ gN O (gN L (gR R k).a) = k := fun k hk => by
  have := h.rm k hk
  exact ⟨(h.li _ (by omega)).1, h.ro k hk _ (Nat.le_refl _) (by omega)⟩
 have hk := (h.os s hs).1
 obtain ⟨u, hu, hu1, hu2⟩ : ∃ u, u < n ∧ gN O u = gN O s ∧ ¬ u = gN L (gR R (gN O s)).a := by
  by_cases e1 : s = gN L (gR R (gN O s)).a
  · exact ⟨t, ht, e.symm, fun e2 => hne (e1.trans e2.symm)⟩
  · exact ⟨s, hs, rfl, e1⟩
 have := pigeon n (n + 1) (fun j => if j < n then gN L (gR R j).a else u) (fun i hi => by
  show (if i < n then gN L (gR R i).a else u) < n
  by_cases e1 : i < n
  · rw [if_pos e1]; exact (hf i (by omega)).1
  · rw [if_neg e1]; exact hu) (fun i hi j hj e2 => by
  have e2 : (if i < n then gN L (gR R i).a else u) = (if j < n then gN L (gR R j).a else u) := e2
  by_cases a : i < n
  · by_cases b : j < n
    · rw [if_pos a, if_pos b] at e2
      rw [← (hf i (by omega)).2, ← (hf j (by omega)).2, e2]
    · rw [if_pos a, if_neg b] at e2
      have h1 := (hf i (by omega)).2
      rw [e2, hu1] at h1
      rw [← h1] at e2
      exact absurd e2.symm hu2
  · by_cases b : j < n
    · rw [if_neg a, if_pos b] at e2
      have h1 := (hf j (by omega)).2
      rw [← e2, hu1] at h1
      rw [← h1] at e2
      exact absurd e2 hu2
    · omega)
 omega
end Go.Proofs.YtdgoilkgplnhfaaGreat
namespace Go.Proofs.YtdgoilkgplnhfaaGreat
open Go.RowKit Go.Lib
def rmC (r : Rm) : List Value := [.int .i64 (r.a : Int), .int .i64 (r.m : Int), .int .i64 (r.e : Int)]
def rCells : List Rm → List Value
 | [] => []
 | r :: R => rmC r ++ rCells R
theorem rCells_length : ∀ R : List Rm, (rCells R).length = R.length * 3
 | [] => rfl
 | r :: R => by rw [rCells, List.length_append, rCells_length R, List.length_cons]; simp [rmC]; omega
theorem rCells_snoc (r : Rm) : ∀ R : List Rm, rCells (R ++ [r]) = rCells R ++ rmC r
 | [] => by simp [rCells]
 | x :: R => by rw [List.cons_append, rCells, rCells, rCells_snoc r R, List.append_assoc]
theorem rCells_get : ∀ (R : List Rm) (k j : Nat), k < R.length → j < 3 → (rCells R)[k * 3 + j]? = (rmC (gR R k))[j]?
 | [], k, j, h, _ => by cases h
 | r :: R, 0, j, _, hj => by
   rw [rCells, List.getElem?_append_left (by simp [rmC]; omega)]
   simp [gR]
 | r :: R, k + 1, j, h, hj => by
   rw [rCells, List.getElem?_append_right (by simp [rmC]; omega)]
   have e : (k + 1) * 3 + j - (rmC r).length = k * 3 + j := by simp [rmC]; omega
   rw [e, rCells_get R k j (by simpa using h) hj]
   simp [gR]
theorem rCells_mark (R : List Rm) (k : Nat) (h : k < R.length) (m : Nat) : (rCells R).set (k * 3 + 1) (.int .i64 (m : Int)) = rCells (R.set k ⟨(gR R k).a, m, (gR R k).e⟩) := by
 refine List.ext_getElem? (fun i => ?_)
 rw [List.getElem?_set]
 by_cases hi : i < R.length * 3
 · have hd := Nat.div_add_mod i 3
   obtain ⟨q, j, hj, rfl⟩ : ∃ q j, j < 3 ∧ i = q * 3 + j := ⟨i / 3, i % 3, by omega, by omega⟩
   rw [rCells_get (R.set k _) q j (by rw [List.length_set]; omega) hj, gR_set R h, rCells_length]
   by_cases e : q = k
   · subst e
     rw [if_pos rfl]
     match j, hj with
     | 0, _ => rw [if_neg (by omega), rCells_get _ _ _ h (by omega)]; simp [rmC]
     | 1, _ => rw [if_pos rfl, if_pos (by omega)]; simp [rmC]
     | 2, _ => rw [if_neg (by omega), rCells_get _ _ _ h (by omega)]; simp [rmC]
   · rw [if_neg (by omega), if_neg e, rCells_get _ _ _ (by omega) hj]
 · rw [if_neg (by omega), List.getElem?_eq_none (by rw [rCells_length]; omega), List.getElem?_eq_none (by rw [rCells_length, List.length_set]; omega)]
def OwnR (w : World) (base : Nat) (v : Value) (R : List Rm) : Prop := w.ownsRow base 164 3 v R.length (rCells R)
theorem OwnR.shape {w : World} {base : Nat} {v : Value} {R : List Rm} (h : OwnR w base v R) : ∃ ao cap, v = .slice ao R.length cap := by
 obtain ⟨a, k, e, _⟩ := own_shape (show w.ownsRow base 164 3 v R.length (rCells R) from h)
 exact ⟨a, k, e⟩
theorem OwnR.at {w : World} {base : Nat} {v : Value} {R : List Rm} (h : OwnR w base v R) (h0 : 0 < R.length) : ∃ g cap, v = .slice (some ⟨g, 0, none⟩) R.length cap := by
 have hh : w.ownsRow base 164 3 v R.length (rCells R) := h
 rcases hh.2 with ⟨rfl, hn⟩ | ⟨g, cap, cur, rfl, _⟩
 · omega
 · exact ⟨g, cap, rfl⟩
section
variable {w : World} {base g cap : Nat} {R : List Rm}
theorem OwnR.cell (h : OwnR w base (.slice (some ⟨g, 0, none⟩) R.length cap) R) {k j : Nat} (hk : k < R.length) (hj : j < 3) : w.cell? ⟨g, k * 3 + j, none⟩ = (rmC (gR R k))[j]? := by
 have hh : w.ownsRow base 164 3 (.slice (some ⟨g, 0, none⟩) R.length cap) R.length (rCells R) := h
 rw [hh.cellAt _ (by omega), rCells_get R k j hk hj]
theorem OwnR.mark (h : OwnR w base (.slice (some ⟨g, 0, none⟩) R.length cap) R) {k : Nat} (hk : k < R.length) (m : Nat) :
 OwnR (w.setCell ⟨g, k * 3 + 1, none⟩ (.int .i64 (m : Int))) base (.slice (some ⟨g, 0, none⟩) R.length cap) (R.set k ⟨(gR R k).a, m, (gR R k).e⟩) ∧ Kept (fun b => b = g) w (w.setCell ⟨g, k * 3 + 1, none⟩ (.int .i64 (m : Int))) := by
 have hh : w.ownsRow base 164 3 (.slice (some ⟨g, 0, none⟩) R.length cap) R.length (rCells R) := h
 obtain ⟨h1, h2⟩ := hh.stored (k * 3 + 1) (.int .i64 (m : Int))
 refine ⟨?_, (kept_of_grown h2).mono (fun b hb => by injection hb with hb; exact hb.symm)⟩
 unfold OwnR
 rw [List.length_set, ← rCells_mark R k hk]
 exact h1
end
structure PrM (w : World) (base pb : Nat) (lv pv ov rv : Value) (L P O : List Nat) (R : List Rm) : Prop where
 blk : w.heap[pb]? = some (.cells #[lv, pv, ov, rv] 161 (0, 0))
 ge : base ≤ pb
 rws : Rws w base [(lv, L), (pv, P), (ov, O)]
 own : OwnR w base rv R
def inP (lv pv ov rv : Value) (b : Nat) : Prop := lv.ownBlock = some b ∨ pv.ownBlock = some b ∨ ov.ownBlock = some b ∨ rv.ownBlock = some b
section
variable {w w' : World} {base pb : Nat} {lv pv ov rv : Value} {L P O : List Nat} {R : List Rm}
theorem PrM.kept {F : Nat → Prop} (h : PrM w base pb lv pv ov rv L P O R) (x : Kept F w w') (h1 : ¬ F pb) (h2 : ∀ b, inP lv pv ov rv b → ¬ F b) : PrM w' base pb lv pv ov rv L P O R :=
 ⟨(x.block pb (lt_of_block h.blk) h1).trans h.blk, h.ge, h.rws.kept x (fun j hj b hb => h2 b (by
   match j, hj with
   | 0, _ => exact .inl hb
   | 1, _ => exact .inr (.inl hb)
   | 2, _ => exact .inr (.inr (.inl hb)))), own_kept h.own x (fun b hb => h2 b (.inr (.inr (.inr hb))))⟩
theorem PrM.below (h : PrM w base pb lv pv ov rv L P O R) (x : Below w.heap.size w w') : PrM w' base pb lv pv ov rv L P O R :=
 ⟨(x.block pb (lt_of_block h.blk)).trans h.blk, h.ge, h.rws.below x, own_below h.own x⟩
theorem PrM.notpb (h : PrM w base pb lv pv ov rv L P O R) : ∀ b, inP lv pv ov rv b → ¬ b = pb := fun b hb e => by
 subst e
 have hx : ∀ (j : Nat) (hj : j < 3), ([(lv, L), (pv, P), (ov, O)] : List RN)[j].1.ownBlock = some b → False := fun j hj hf => by
  obtain ⟨cs, h2⟩ := own_ty (show w.ownsRow base 3 1 _ _ (nCells _) from h.rws.own j hj) b hf
  rw [h.blk] at h2
  simp at h2
 rcases hb with hb | hb | hb | hb
 · exact hx 0 (by decide) hb
 · exact hx 1 (by decide) hb
 · exact hx 2 (by decide) hb
 · obtain ⟨cs, h2⟩ := own_ty (show w.ownsRow base 164 3 rv R.length (rCells R) from h.own) b hb
   rw [h.blk] at h2
   simp at h2
theorem PrM.cells (h : PrM w base pb lv pv ov rv L P O R) : w.cell? ⟨pb, 0, none⟩ = some lv ∧ w.cell? ⟨pb, 1, none⟩ = some pv ∧ w.cell? ⟨pb, 2, none⟩ = some ov ∧ w.cell? ⟨pb, 3, none⟩ = some rv :=
 ⟨by rw [cell_of_row _ _ _ _ _ _ h.blk]; rfl, by rw [cell_of_row _ _ _ _ _ _ h.blk]; rfl, by rw [cell_of_row _ _ _ _ _ _ h.blk]; rfl, by rw [cell_of_row _ _ _ _ _ _ h.blk]; rfl⟩
theorem PrM.mark {lg pg rg nl cl np cp cr : Nat} (h : PrM w base pb (.slice (some ⟨lg, 0, none⟩) nl cl) (.slice (some ⟨pg, 0, none⟩) np cp) ov (.slice (some ⟨rg, 0, none⟩) R.length cr) L P O R) (m s q o k : Nat) (hk : k < R.length) :
 PrM (((((w.setCell ⟨lg, m, none⟩ (.int .i64 (s : Int))).setCell ⟨lg, q, none⟩ (.int .i64 (o : Int))).setCell ⟨pg, o, none⟩ (.int .i64 (q : Int))).setCell ⟨pg, s, none⟩ (.int .i64 (m : Int))).setCell ⟨rg, k * 3 + 1, none⟩ (.int .i64 ((m + 1 : Nat) : Int))) base pb (.slice (some ⟨lg, 0, none⟩) nl cl) (.slice (some ⟨pg, 0, none⟩) np cp) ov (.slice (some ⟨rg, 0, none⟩) R.length cr) ((L.set m s).set q o) ((P.set o q).set s m) O (R.set k ⟨(gR R k).a, m + 1, (gR R k).e⟩) ∧
 Kept (inP (.slice (some ⟨lg, 0, none⟩) nl cl) (.slice (some ⟨pg, 0, none⟩) np cp) ov (.slice (some ⟨rg, 0, none⟩) R.length cr)) w (((((w.setCell ⟨lg, m, none⟩ (.int .i64 (s : Int))).setCell ⟨lg, q, none⟩ (.int .i64 (o : Int))).setCell ⟨pg, o, none⟩ (.int .i64 (q : Int))).setCell ⟨pg, s, none⟩ (.int .i64 (m : Int))).setCell ⟨rg, k * 3 + 1, none⟩ (.int .i64 ((m + 1 : Nat) : Int))) := by
 have hl : inP (.slice (some ⟨lg, 0, none⟩) nl cl) (.slice (some ⟨pg, 0, none⟩) np cp) ov (.slice (some ⟨rg, 0, none⟩) R.length cr) lg := .inl rfl
 have hp : inP (.slice (some ⟨lg, 0, none⟩) nl cl) (.slice (some ⟨pg, 0, none⟩) np cp) ov (.slice (some ⟨rg, 0, none⟩) R.length cr) pg := .inr (.inl rfl)
 have hr : inP (.slice (some ⟨lg, 0, none⟩) nl cl) (.slice (some ⟨pg, 0, none⟩) np cp) ov (.slice (some ⟨rg, 0, none⟩) R.length cr) rg := .inr (.inr (.inr rfl))
 have r1 := h.rws.store (i := 0) (by simp) rfl m s
 have r2 := r1.store (i := 0) (by simp) rfl q o
 have r3 := r2.store (i := 1) (by simp) rfl o q
 have r4 := r3.store (i := 1) (by simp) rfl s m
 have oL : w.ownsRow base 3 1 (.slice (some ⟨lg, 0, none⟩) nl cl) L.length (nCells L) := h.rws.own 0 (by simp)
 have oP : w.ownsRow base 3 1 (.slice (some ⟨pg, 0, none⟩) np cp) P.length (nCells P) := h.rws.own 1 (by simp)
 have oR : w.ownsRow base 164 3 (.slice (some ⟨rg, 0, none⟩) R.length cr) R.length (rCells R) := h.own
 have k4 : Kept (fun b => b = lg ∨ b = pg) w ((((w.setCell ⟨lg, m, none⟩ (.int .i64 (s : Int))).setCell ⟨lg, q, none⟩ (.int .i64 (o : Int))).setCell ⟨pg, o, none⟩ (.int .i64 (q : Int))).setCell ⟨pg, s, none⟩ (.int .i64 (m : Int))) :=
  ((((Kept.refl _ _).setCell (p := ⟨lg, m, none⟩) (.inl rfl) _).setCell (p := ⟨lg, q, none⟩) (.inl rfl) _).setCell (p := ⟨pg, o, none⟩) (.inr rfl) _).setCell (p := ⟨pg, s, none⟩) (.inr rfl) _
 have o4 : OwnR ((((w.setCell ⟨lg, m, none⟩ (.int .i64 (s : Int))).setCell ⟨lg, q, none⟩ (.int .i64 (o : Int))).setCell ⟨pg, o, none⟩ (.int .i64 (q : Int))).setCell ⟨pg, s, none⟩ (.int .i64 (m : Int))) base (.slice (some ⟨rg, 0, none⟩) R.length cr) R := own_kept oR k4 (fun b hb e => by
  rcases e with e | e
  · exact own_ne oR oL (by decide) b hb (by rw [e]; rfl)
  · exact own_ne oR oP (by decide) b hb (by rw [e]; rfl))
 obtain ⟨o5, k5⟩ := o4.mark hk (m + 1)
 have r5 := r4.kept k5 (fun j hj b hb e => by
  subst e
  exact own_ne (show ((((w.setCell ⟨lg, m, none⟩ (.int .i64 (s : Int))).setCell ⟨lg, q, none⟩ (.int .i64 (o : Int))).setCell ⟨pg, o, none⟩ (.int .i64 (q : Int))).setCell ⟨pg, s, none⟩ (.int .i64 (m : Int))).ownsRow base 3 1 _ _ (nCells _) from r4.own j hj) o4 (by decide) _ hb rfl)
 have kk := (k4.mono (G := inP (.slice (some ⟨lg, 0, none⟩) nl cl) (.slice (some ⟨pg, 0, none⟩) np cp) ov (.slice (some ⟨rg, 0, none⟩) R.length cr)) (fun b hb => hb.elim (fun e => e ▸ hl) (fun e => e ▸ hp))).trans (k5.mono (fun b e => e ▸ hr))
 refine ⟨⟨(kk.block pb (lt_of_block h.blk) (fun hb => h.notpb _ hb rfl)).trans h.blk, h.ge, r5, o5⟩, kk⟩
end
def bkV (n : Nat) (sg sl sc fg fl fc : Nat) : Value := .agg #[.int .i64 (n : Int), .slice (some ⟨sg, 0, none⟩) sl sc, .slice (some ⟨fg, 0, none⟩) fl fc]
theorem slot_any (n tt c sg sl sc fg fl fc : Nat) (w : World) (h : c * n + tt ≤ 9223372036854775807) :
 Calls Tryz.prog 138 #[bkV n sg sl sc fg fl fc, .int .i64 (tt : Nat), .int .i64 (c : Nat)] w fun e w' => e = .returned (.int .i64 ((c * n + tt : Nat) : Int)) ∧ Below w.heap.size w w' := by
 have f1 : IntKind.i64.wrap ((c : Int) * (n : Int)) = ((c * n : Nat) : Int) := by rw [show (c : Int) * (n : Int) = ((c * n : Nat) : Int) by simp]; exact w64_n _ (by omega)
 have f2 : IntKind.i64.wrap (((c * n : Nat) : Int) + (tt : Int)) = ((c * n + tt : Nat) : Int) := by rw [show ((c * n : Nat) : Int) + (tt : Int) = ((c * n + tt : Nat) : Int) by simp]; exact w64_n _ h
 generalize c * n = m at *
 have X := hide (al (Below.refl w.heap.size w) (.cells #[.int .i64 (n : Int), .slice (some ⟨sg, 0, none⟩) sl sc, .slice (some ⟨fg, 0, none⟩) fl fc] 157))
 unfold bkV
 go_enter Tryz.func138, Tryz.ntmps138
 go_wp2
 go_ret
 exact ⟨by first | rfl | simp, X.out⟩
theorem ahead_any (n tt c i sg sc fg fc lo hi : Nat) (S F : List Nat) (w : World) (hi' : c * n + tt = i) (hb : i ≤ 140737488351232) (hS : i + 1 < S.length) (hlo : gN S i = lo) (hhi : gN S (i + 1) = hi) (h1 : lo ≤ hi) (h2 : hi ≤ F.length) (h3 : F.length ≤ fc) (hat : NAt w (some ⟨sg, 0, none⟩) S) :
 Calls Tryz.prog 139 #[bkV n sg S.length sc fg F.length fc, .int .i64 (tt : Nat), .int .i64 (c : Nat)] w fun e w' => (∃ ao, e = .returned (.slice ao (hi - lo) (fc - lo)) ∧ (lo < hi → ao = some ⟨fg, lo, none⟩)) ∧ Below w.heap.size w w' := by
 obtain ⟨sb, off, e0, hsb, c1⟩ := hat.get (show i < S.length by omega)
 obtain ⟨sb', off', e0', _, c2⟩ := hat.get hS
 simp only [Option.some.injEq, Addr.mk.injEq, and_true] at e0 e0'
 obtain ⟨rfl, rfl⟩ := e0
 obtain ⟨rfl, rfl⟩ := e0'
 rw [← gN_lt (show i < S.length by omega), hlo, Nat.zero_add] at c1
 rw [← gN_lt hS, hhi, Nat.zero_add] at c2
 have X1 := hide (al (Below.refl w.heap.size w) (.cells #[.int .i64 (n : Int), .slice (some ⟨sg, 0, none⟩) S.length sc, .slice (some ⟨fg, 0, none⟩) F.length fc] 157))
 have B1 := heap_alloc_new w (.cells #[.int .i64 (n : Int), .slice (some ⟨sg, 0, none⟩) S.length sc, .slice (some ⟨fg, 0, none⟩) F.length fc] 157)
 have HSL := hide (slot_any n tt c sg S.length sc fg F.length fc (w.alloc (.cells #[.int .i64 (n : Int), .slice (some ⟨sg, 0, none⟩) S.length sc, .slice (some ⟨fg, 0, none⟩) F.length fc] 157)) (by omega))
 rw [hi'] at HSL
 have a1 : (i : Int) < (S.length : Int) := by omega
 have a2 : (i : Int) + 1 < (S.length : Int) := by omega
 have a3 : IntKind.i64.wrap ((i : Int) + 1) = (i : Int) + 1 := by simp [IntKind.wrap, IntKind.bits, IntKind.signed]; omega
 have a4 : (lo : Int) ≤ (hi : Int) := by omega
 have a5 : (hi : Int) ≤ (fc : Int) := by omega
 have a6 : (hi : Int) ≤ (F.length : Int) := by omega
 have a7 : (0 : Int) ≤ (i : Int) + 1 := by omega
 have a8 : ((i : Int) + 1).toNat = i + 1 := by omega
 clear hi' hlo hhi hat
 unfold bkV at HSL ⊢
 go_enter Tryz.func139, Tryz.ntmps139
 go_wp2_with (fail)
 refine HSL.out.mono ?_
 rintro e w2 ⟨rfl, x2⟩
 have B2 := (x2.block _ (lt_of_block B1)).trans B1
 have d1 : w2.cell? ⟨w.heap.size, 1, none⟩ = some (.slice (some ⟨sg, 0, none⟩) S.length sc) := by rw [cell_of_row _ _ _ _ _ _ B2]; rfl
 have d2 : w2.cell? ⟨w.heap.size, 2, none⟩ = some (.slice (some ⟨fg, 0, none⟩) F.length fc) := by rw [cell_of_row _ _ _ _ _ _ B2]; rfl
 have X2 := hide (bt X1.out x2 (Nat.le_refl _))
 have d3 := (X2.out.cell (p := ⟨sg, i, none⟩) hsb).trans c1
 have d4 := (X2.out.cell (p := ⟨sg, i + 1, none⟩) hsb).trans c2
 clear HSL x2 B1 B2 c1 c2
 go_wp2
 go_quiet (fail)
 have X3 : Hid (Below w.heap.size w (w2.drewN nq)) := X2.out.trans ⟨rfl, rfl, rfl, Nat.le_refl _, fun _ _ => rfl⟩
 go_wp2
 all_goals
  go_ret
  exact ⟨⟨_, rfl, fun hl => by first | rfl | (simp; done) | omega⟩, X3.out⟩
theorem settled_any (w : World) (base pb : Nat) (lv pv ov rv : Value) (L P O : List Nat) (R : List Rm) (h : PrM w base pb lv pv ov rv L P O R) :
 Calls Tryz.prog 115 #[.pointer (some ⟨pb, 0, none⟩)] w fun e w' => (∃ b : Bool, e = .returned (.bool b) ∧ (b = true ↔ R.length = L.length ∨ 256 < R.length)) ∧ Below w.heap.size w w' := by
 obtain ⟨q0, q1, q2, q3⟩ := h.cells
 obtain ⟨la, lc, hlv⟩ := OwnN.shape (h.rws.own 0 (by simp))
 simp only [List.getElem_cons_zero] at hlv
 subst hlv
 obtain ⟨ra, rc, rfl⟩ := h.own.shape
 clear h
 go_enter Tryz.func115, Tryz.ntmps115
 go_wp2
 by_cases h1 : (R.length : Int) = (L.length : Int)
 · have h1' : decide ((R.length : Int) = (L.length : Int)) = true := by simpa using h1
   go_quiet (fail)
   have X3 : Hid (Below w.heap.size w (w.drewN nq)) := ⟨rfl, rfl, rfl, Nat.le_refl _, fun _ _ => rfl⟩
   go_wp2
   go_ret
   exact ⟨⟨_, rfl, by simp; omega⟩, X3.out⟩
 · have h1' : decide ((R.length : Int) = (L.length : Int)) = false := by simpa using h1
   have h1'' : ((R.length : Int) == (L.length : Int)) = false := by simpa using h1
   go_quiet (fail)
   have X3 : Hid (Below w.heap.size w (w.drewN nq)) := ⟨rfl, rfl, rfl, Nat.le_refl _, fun _ _ => rfl⟩
   go_wp2
   go_ret
   exact ⟨⟨_, rfl, by simp; omega⟩, X3.out⟩
end Go.Proofs.YtdgoilkgplnhfaaGreat
