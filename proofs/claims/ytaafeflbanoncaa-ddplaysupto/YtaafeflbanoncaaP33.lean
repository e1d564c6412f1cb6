/-
  The document's cut: its memory, what it leaves; kids put together by it, one more. No condition.
-/
import Derived.Test.YtaafeflbanoncaaP32
import Derived.Test.YtaafeflbanoncaaP18
namespace Go.Proofs.Ytaafeflbanoncaa
open Go.RowKit Go.Lib Go.Maps

/-- What is cut. -/
structure Cu where
  x : Nat
  S : List Int
  M : Int
  mm : Nat
  db : Nat
  n : Nat
  lv : Nat
  cl : Nat
def cfU (u : Cu) : Cf := { a := u.x, S := u.S, M := u.M, mm := u.mm, rb := 0, kb := 0, kv := .bool false, op := fun a _ => a, q := fun p => upd p u.lv u.cl, Z := True, xs := [] }
theorem cfU_q {u : Cu} (hk : (u.cl : Int) < u.S.getD u.lv 0) : QOk (cfU u) := ⟨fun p hp => hp.upd hk, fun p p' l' h j h1 h2 => by
  show upd p u.lv u.cl j = upd p' u.lv u.cl j
  by_cases e : j = u.lv
  · subst e; rw [upd_at, upd_at]
  · rw [upd_ne p _ e, upd_ne p' _ e]; exact h j h1 h2⟩
abbrev phU (u : Cu) (N : List Nd) (f : Int) : Phi := phi (cfU u) N f 0
abbrev PtU (u : Cu) (N : List Nd) (f r : Int) : Prop := PtOk u.S N (fun a _ => a) (fun p => upd p u.lv u.cl) f 0 r
def UBk (w : World) (u : Cu) (er : Int) : Prop := w.heap[u.mm]? = some (.cells #[.pointer (some ⟨u.x, 0, none⟩), .int .i64 (u.lv : Int), .int .i64 (u.cl : Int), .slice (some ⟨u.db, 0, none⟩) u.n u.n, .int .i64 er] 119 (0, 0))
theorem UBk.cells {w : World} {u : Cu} {er : Int} (h : UBk w u er) : w.cell? ⟨u.mm, 0, none⟩ = some (.pointer (some ⟨u.x, 0, none⟩)) ∧ w.cell? ⟨u.mm, 1, none⟩ = some (.int .i64 (u.lv : Int)) ∧ w.cell? ⟨u.mm, 2, none⟩ = some (.int .i64 (u.cl : Int)) ∧ w.cell? ⟨u.mm, 3, none⟩ = some (.slice (some ⟨u.db, 0, none⟩) u.n u.n) ∧ w.cell? ⟨u.mm, 4, none⟩ = some (.int .i64 er) := by
  refine ⟨?_, ?_, ?_, ?_, ?_⟩ <;> (rw [cell_of_row w u.mm _ _ _ _ h]; rfl)
structure DC (w : World) (u : Cu) (N : List Nd) (Q : Nat → Prop) (D : List Int) (er : Int) : Prop where
  ra : RA w u.x u.S u.M N Q
  blk : UBk w u er
  dbk : RwZ w u.db D
  dl : D.length = u.n
  nm : ¬ Q u.mm
  nd : ¬ Q u.db
  dn : (u.n : Int) ≤ (N.length : Int) + 2
  lv : u.lv < u.S.length
  cl : (u.cl : Int) < u.S.getD u.lv 0
  good : er = 0 → ∀ f, f < u.n → D.getD f 0 = 0 ∨ (0 < D.getD f 0 ∧ PtU u N (f : Int) (D.getD f 0 - 1))
/-- What may be written into. -/
def Fu (u : Cu) (Q : Nat → Prop) : Nat → Prop := fun k => Q k ∨ k = u.mm ∨ k = u.db
section
variable {w w' w3 wr w6 w7 : World} {u : Cu} {N N' N2 T : List Nd} {Q Q' Q2 : Nat → Prop} {D D' D2 : List Int} {er er' : Int}
theorem DC.ne (h : DC w u N Q D er) : u.mm ≠ u.db := ty_ne h.blk h.dbk (by decide)
theorem DC.kept {K : Nat → Prop} (h : DC w u N Q D er) (k : Kept K w w') (hm : ¬ K u.mm) (hd : ¬ K u.db) (hra : RA w' u.x u.S u.M (N ++ T) Q') (hQ : ∀ b, b < w.heap.size → ¬ Q b → ¬ Q' b) : DC w' u (N ++ T) Q' D er := by
  have a1 := lt_of_block h.blk
  refine ⟨hra, (k.block _ a1 hm).trans h.blk, h.dbk.kept k hd, h.dl, hQ _ a1 h.nm, hQ _ h.dbk.lt h.nd, by have := h.dn; rw [List.length_append]; omega, h.lv, h.cl, fun he f hf => ?_⟩
  have hd := h.dn
  exact (h.good he f hf).imp id (fun g => ⟨g.1, g.2.app h.ra.ok (fun _ hp => hp.upd h.cl) ⟨by omega, by omega⟩ ⟨by omega, by omega⟩⟩)
theorem DC.below (h : DC w u N Q D er) (x : Below w.heap.size w w') : DC w' u N Q D er := by
  have := h.kept (K := fun _ => False) (T := []) (Q' := Q) (Kept.of_below x) (fun h => h) (fun h => h) (by rw [List.append_nil]; exact h.ra.below x) (fun _ _ h => h)
  rwa [List.append_nil] at this
theorem DC.step (h : DC w u N Q D er) (k : Kept Q w w') (hra : RA w' u.x u.S u.M (N ++ T) Q') (hQ : Gw w Q Q') : DC w' u (N ++ T) Q' D er :=
  h.kept k h.nm h.nd hra (fun _ hb hq => hQ.not hb hq)
theorem DC.other (h : DC w u N Q D er) {ob : Nat} (k : Kept (fun b => b = ob) w w') (h1 : ob ≠ u.mm) (h2 : ob ≠ u.db) (h4 : ¬ Q ob) : DC w' u N Q D er := by
  have := h.kept (T := []) (Q' := Q) k (Ne.symm h1) (Ne.symm h2) (by rw [List.append_nil]; exact h.ra.kept k (fun b hb e => h4 (e ▸ hb))) (fun _ _ h => h)
  rwa [List.append_nil] at this
theorem DC.setE (h : DC w u N Q D er) (he : er' = 0 → er = 0) (hw : w' = w.setCell ⟨u.mm, 4, none⟩ (.int .i64 er')) : DC w' u N Q D er' ∧ Kept (fun b => b = u.mm) w w' := by
  have k : Kept (fun b => b = u.mm) w w' := by rw [hw]; exact (Kept.refl (fun b => b = u.mm) w).setCell (p := ⟨u.mm, 4, none⟩) rfl _
  refine ⟨⟨h.ra.kept k (fun b hb e => h.nm (e ▸ hb)), ?_, h.dbk.kept k (Ne.symm h.ne), h.dl, h.nm, h.nd, h.dn, h.lv, h.cl, fun e => h.good (he e)⟩, k⟩
  unfold UBk
  rw [hw, block_setCell h.blk 4]
  rfl
theorem DC.push {f : Nat} {r : Int} (h : DC w u N Q D er) (hf : f < u.n) (hw : w' = w.setCell ⟨u.db, f, none⟩ (.int .i64 (r + 1))) (hok : er = 0 → 0 ≤ r ∧ PtU u N (f : Int) r) : DC w' u N Q (D.set f (r + 1)) er ∧ Kept (fun b => b = u.db) w w' := by
  have k : Kept (fun b => b = u.db) w w' := by rw [hw]; exact (Kept.refl (fun b => b = u.db) w).setCell (p := ⟨u.db, f, none⟩) rfl _
  refine ⟨⟨h.ra.kept k (fun b hb e => h.nd (e ▸ hb)), (k.block _ (lt_of_block h.blk) h.ne).trans h.blk, by rw [hw]; exact h.dbk.set f (r + 1), by rw [List.length_set]; exact h.dl, h.nm, h.nd, h.dn, h.lv, h.cl, fun e i hi => ?_⟩, k⟩
  have hl := h.dl
  by_cases e2 : i = f
  · subst e2
    have e3 : (D.set i (r + 1)).getD i 0 = r + 1 := by simp [List.getD_eq_getElem?_getD, hl, hf]
    rw [e3]
    obtain ⟨g1, g2⟩ := hok e
    exact .inr ⟨by omega, by rw [show r + 1 - 1 = r by omega]; exact g2⟩
  · have e3 : (D.set f (r + 1)).getD i 0 = D.getD i 0 := by
      simp only [List.getD_eq_getElem?_getD]
      rw [List.getElem?_set_ne (Ne.symm e2)]
    rw [e3]
    exact h.good e i hi
/-- What it leaves. -/
def OfL (u : Cu) (N : List Nd) (Q : Nat → Prop) (f : Int) (w : World) (e : Ending) (w' : World) : Prop :=
  ∃ r er N' Q' D', e = .returned (.int .i64 r) ∧ DC w' u N' Q' D' er ∧ (∃ T, N' = N ++ T) ∧ Kept (Fu u Q) w w' ∧ Gw w Q Q' ∧ ins u.S u.M N (phU u N f) = (r, er, N') ∧ ((er = 0 ∧ PtU u N' f r) ∨ (er = 2 ∧ r = 0))
/-- Some kids are put together. -/
structure UI (u : Cu) (N : List Nd) (Q : Nat → Prop) (l : Nat) (f : Int) (w3 : World) (ob n k : Nat) (N' : List Nd) (Q' : Nat → Prop) (D' : List Int) (ks : List Int) (er : Int) (wr : World) : Prop where
  dc : DC wr u N' Q' D' er
  ext : ∃ T, N' = N ++ T
  kp : Kept (Fu u Q) w3 wr
  pp : Gw w3 Q Q'
  np : ¬ Q' ob
  nd : ob ≠ u.db
  len : ks.length = k
  out : RwZ wr ob (ks ++ List.replicate (n - k) 0)
  st : (er = 0 ∧ (∀ i, i < k → PtU u N' (kidR u.S N l f i) (ks.getD i 0)) ∧ kidsF (ins u.S u.M) N ((cuts u.S (phU u N f) l).take k) = (ks, 0, N')) ∨ (er = 2 ∧ kidsF (ins u.S u.M) N (cuts u.S (phU u N f) l) = ([], 2, N'))
theorem UI.nm {l ob n k : Nat} {f : Int} {ks : List Int} (h : UI u N Q l f w3 ob n k N' Q' D' ks er wr) : ob ≠ u.mm := ty_ne h.out h.dc.blk (by decide)
theorem UI.setN {ob n k : Nat} {ks : List Int} {r : Int} (h : RwZ w6 ob (ks ++ List.replicate (n - k) 0)) (hl : ks.length = k) (hk : k < n) (hw : w7 = w6.setCell ⟨ob, k, none⟩ (.int .i64 r)) : RwZ w7 ob (ks ++ [r] ++ List.replicate (n - (k + 1)) 0) := by
  have := h.set k r
  rw [hw]
  have e : (ks ++ List.replicate (n - k) 0).set k r = ks ++ [r] ++ List.replicate (n - (k + 1)) 0 := by
    rw [List.set_append_right _ _ (by rw [hl]; exact Nat.le_refl _), hl, Nat.sub_self, show n - k = (n - (k + 1)) + 1 by omega, List.replicate_succ, List.set_cons_zero, List.append_assoc]
    rfl
  rwa [e] at this
/-- Nothing more is done. -/
theorem UI.stay {l ob n k : Nat} {f r : Int} {ks : List Int} (h : UI u N Q l f w3 ob n k N' Q' D' ks 2 wr) (hk : k < n) (hob : w3.heap.size ≤ ob) (hw : w7 = wr.setCell ⟨ob, k, none⟩ (.int .i64 r)) : UI u N Q l f w3 ob n (k + 1) N' Q' D' (ks ++ [r]) 2 w7 := by
  have ks6 : Kept (fun b => b = ob) wr w7 := by rw [hw]; exact (Kept.refl (fun b => b = ob) wr).setCell (p := ⟨ob, k, none⟩) rfl _
  refine ⟨h.dc.other ks6 h.nm h.nd h.np, h.ext, h.kp.trans_new ks6 (fun b hb e => by omega), h.pp, h.np, h.nd, by rw [List.length_append, h.len]; rfl, UI.setN h.out h.len hk hw, ?_⟩
  rcases h.st with ⟨h1, _⟩ | h1
  · exact absurd h1 (by decide)
  · exact .inr h1
theorem UI.next {l ob n k : Nat} {f r : Int} {ks : List Int} (hl : l < u.S.length) (hlv : l < u.lv) (hf : hasR N f) (h0 : Ok u.S u.M N) (hfl : (l : Int) ≤ lvl u.S N f) (hn : (n : Int) = u.S.getD l 0) (hk : k < n) (hob : w3.heap.size ≤ ob) (h : UI u N Q l f w3 ob n k N' Q' D' ks 0 wr)
    (m6 : DC w6 u N2 Q2 D2 er) (e6 : ∃ T, N2 = N' ++ T) (k6 : Kept (Fu u Q') wr w6) (p6 : Gw wr Q' Q2) (in6 : ins u.S u.M N' (phU u N' (kidR u.S N l f k)) = (r, er, N2)) (ok6 : (er = 0 ∧ PtU u N2 (kidR u.S N l f k) r) ∨ (er = 2 ∧ r = 0)) (hw : w7 = w6.setCell ⟨ob, k, none⟩ (.int .i64 r)) : UI u N Q l f w3 ob n (k + 1) N2 Q2 D2 (ks ++ [r]) er w7 := by
  have hobl : ob < wr.heap.size := h.out.lt
  obtain ⟨T, hT⟩ := h.ext
  obtain ⟨T2, hT2⟩ := e6
  have hcl := h.dc.cl
  have o6' : RwZ w6 ob (ks ++ List.replicate (n - k) 0) := h.out.kept k6 (fun hf => by
    rcases hf with h1 | h1 | h1
    · exact h.np h1
    · exact h.nm h1
    · exact h.nd h1)
  have np2 : ¬ Q2 ob := p6.not hobl h.np
  have ks6 : Kept (fun b => b = ob) w6 w7 := by rw [hw]; exact (Kept.refl (fun b => b = ob) w6).setCell (p := ⟨ob, k, none⟩) rfl _
  have kwr : Kept (Fu u Q) w3 w6 := h.kp.trans_new k6 (fun b hb hF => hF.elim (fun h1 => .inl ((h.pp b h1).elim id (fun h2 => by omega))) .inr)
  have hkc : (k : Int) < u.S.getD l 0 := by omega
  have hz : hasR N 0 := ⟨by omega, by omega⟩
  have hz2 : (l : Int) ≤ lvl u.S N 0 := by rw [lvl_low (by omega)]; omega
  have ha := phi_cut (c := cfU u) (T := T) (cfU_q hcl) h0 hl hf hz hfl hz2 (fun p => upd_ne p u.cl (by omega)) hkc
  rw [← hT, show kidR (cfU u).S N l 0 k = 0 from kidR_zero hl] at ha
  have hh : Hang u.S (cutP (phU u N f) l k) 0 := ((phi_hang (c := cfU u) (cfU_q hcl) h0 hf hz hfl hz2).cut hkc).all
  have e : ins u.S u.M N' (cutP (phU u N f) l k) = (r, er, N2) := (ins_alike h.dc.ra.ok hh ha).trans in6
  obtain ⟨_, okk, kf⟩ | ⟨h1, _⟩ := h.st
  rotate_left
  · exact absurd h1 (by decide)
  refine ⟨m6.other ks6 h.nm h.nd np2, ⟨T ++ T2, by rw [hT2, hT, List.append_assoc]⟩, kwr.trans_new ks6 (fun b hb e => by omega), h.pp.trans p6 h.kp.size, np2, h.nd, by rw [List.length_append, h.len]; rfl, UI.setN o6' h.len hk hw, ?_⟩
  have cut := cuts_take (S := u.S) (φ := phU u N f) hkc
  rcases ok6 with ⟨rfl, ok6⟩ | ⟨rfl, rfl⟩
  · refine .inl ⟨rfl, fun i hi => ?_, ?_⟩
    · by_cases hik : i < k
      · have e : (ks ++ [r]).getD i 0 = ks.getD i 0 := by rw [List.getD_eq_getElem?_getD, List.getElem?_append_left (by rw [h.len]; exact hik), ← List.getD_eq_getElem?_getD]
        rw [e, hT2]
        have a1 := (kidR_has (c := i) h0 hl hf hfl (by omega)).1
        exact (okk i hik).app h.dc.ra.ok (fun _ hp => hp.upd hcl) (by rw [hT]; exact hasR_app a1) (by rw [hT]; exact hasR_app hz)
      · obtain rfl : i = k := by omega
        have e : (ks ++ [r]).getD i 0 = r := by rw [List.getD_eq_getElem?_getD, List.getElem?_append_right (by rw [h.len]; exact Nat.le_refl _), h.len, Nat.sub_self]; rfl
        rw [e]
        exact ok6
    · rw [cut, kids_snoc _ _ _ _ kf, e, if_pos rfl]
  · refine .inr ⟨rfl, ?_⟩
    have e2 : kidsF (ins u.S u.M) N ((cuts u.S (phU u N f) l).take (k + 1)) = ([], 2, N2) := by
      rw [cut, kids_snoc _ _ _ _ kf, e, if_neg (show ¬ (2 : Int) = 0 by decide)]
    have := kids_stop _ _ _ _ (by decide) e2 ((cuts u.S (phU u N f) l).drop (k + 1))
    rwa [List.take_append_drop] at this
end
end Go.Proofs.Ytaafeflbanoncaa
