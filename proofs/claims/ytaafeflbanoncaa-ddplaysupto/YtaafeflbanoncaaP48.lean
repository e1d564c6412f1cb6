/-
  Both arenas and the world beside them; what Path and Nodes answer, in one shape each. No condition.
-/
import Derived.Test.YtaafeflbanoncaaP45
import Derived.Test.YtaafeflbanoncaaP47
namespace Go.Proofs.Ytaafeflbanoncaa
open Go.RowKit Go.Lib Go.Maps

theorem RwZ.own {w : World} {b base : Nat} {L : List Int} (h : RwZ w b L) (hb : base ≤ b) (hl : L.length ≤ maxLen) : w.ownsRow base 3 1 (.slice (some ⟨b, 0, none⟩) L.length L.length) L.length (zC L) :=
  ⟨by rw [zC_length, Nat.mul_one], .inr ⟨b, L.length, (zC L).toArray, rfl, hb, h, Nat.le_refl _, hl, by simp [zC_length], by rw [List.take_of_length_le (by simp [zC_length])]⟩⟩
/-- What Path answers. -/
noncomputable def ptG (S : List Int) (N : List Nd) (f : Int) : List Int × Bool × Int := by
  classical
  exact if hasR N f then (if f = 0 then ([], false, 0) else (pathF N f.toNat f (List.replicate S.length 0), true, 0)) else ([], false, 1)
/-- What Nodes answers. -/
noncomputable def ndG (N : List Nd) (A : List Int) : List Int × Int := by
  classical
  exact if ∀ f ∈ A, hasR N f then ((nodF N A).2, 0) else ([], 1)
section
variable {w w' : World} {a x m : Nat} {S : List Int} {M : Int} {N : List Nd} {P Q : Nat → Prop} {f : Int}
theorem ptG_len (ok : Ok S M N) : (ptG S N f).1.length ≤ 12 := by
  unfold ptG
  by_cases hf : hasR N f
  · rw [if_pos hf]
    by_cases h0 : f = 0
    · rw [if_pos h0]; exact Nat.zero_le _
    · rw [if_neg h0]
      have := (path_first ok hf h0).pt.len
      have := ok.sz.le
      show (pathF N f.toNat f (List.replicate S.length 0)).length ≤ 12
      omega
  · rw [if_neg hf]; exact Nat.zero_le _
theorem pathC_any (h : CA w a S M N m P) : Calls Try.prog 27 #[.pointer (some ⟨a, 0, none⟩), .int .i64 f] w fun e w' => (∃ v, e = .returned (.tuple #[v, .bool (ptG S N f).2.1, .int .i64 (ptG S N f).2.2]) ∧ w'.ownsRow w.heap.size 3 1 v (ptG S N f).1.length (zC (ptG S N f).1)) ∧ Below w.heap.size w w' := by
  by_cases hf : hasR N f
  · by_cases h0 : f = 0
    · subst h0
      have e : ptG S N 0 = ([], false, 0) := by unfold ptG; rw [if_pos hf, if_pos rfl]
      rw [e]
      exact (path_zero h).mono (fun _ _ h => ⟨⟨_, h.1, World.ownsRow_nil _ _ _ _⟩, h.2⟩)
    · have e : ptG S N f = (pathF N f.toNat f (List.replicate S.length 0), true, 0) := by unfold ptG; rw [if_pos hf, if_neg h0]
      have hl := h.ok.sz.le
      rw [e]
      refine (path_ok h hf h0).mono (fun _ _ h => ?_)
      obtain ⟨ob, e1, hob, L, hL, hLl, rz, bel⟩ := h
      subst hL
      have := rz.own hob (by rw [hLl]; unfold maxLen; omega)
      rw [← hLl] at e1
      exact ⟨⟨_, e1, this⟩, bel⟩
  · have e : ptG S N f = ([], false, 1) := by unfold ptG; rw [if_neg hf]
    rw [e]
    exact (path_bad h hf).mono (fun _ _ h => ⟨⟨_, h.1, World.ownsRow_nil _ _ _ _⟩, h.2⟩)
theorem pathDD_any (h : RA w x S M N Q) : Calls Try.prog 33 #[.pointer (some ⟨x, 0, none⟩), .int .i64 f] w fun e w' => (∃ ao c, e = .returned (.tuple #[.slice ao (ptG S N f).1.length c, .bool (ptG S N f).2.1, .int .i64 (ptG S N f).2.2]) ∧ ZAt w' ao (ptG S N f).1) ∧ Below w.heap.size w w' := by
  by_cases hf : hasR N f
  · by_cases h0 : f = 0
    · subst h0
      have e : ptG S N 0 = ([], false, 0) := by unfold ptG; rw [if_pos hf, if_pos rfl]
      rw [e]
      exact (pathD_zero h).mono (fun _ _ h => ⟨⟨none, 0, h.1, .inl rfl⟩, by rw [h.2]; exact Below.refl _ _⟩)
    · have e : ptG S N f = (pathF N f.toNat f (List.replicate S.length 0), true, 0) := by unfold ptG; rw [if_pos hf, if_neg h0]
      rw [e]
      refine (pathD_ok h hf h0).mono (fun _ _ h => ?_)
      obtain ⟨ob, e1, hob, L, hL, hLl, rz, bel⟩ := h
      subst hL
      rw [← hLl] at e1
      exact ⟨⟨_, _, e1, rz.zbk.at⟩, bel⟩
  · have e : ptG S N f = ([], false, 1) := by unfold ptG; rw [if_neg hf]
    rw [e]
    exact (pathD_bad h hf).mono (fun _ _ h => ⟨⟨none, 0, h.1, .inl rfl⟩, by rw [h.2]; exact Below.refl _ _⟩)
theorem NdsL.form {A : List Int} {e : Ending} (h : NdsL N A w e w') : (∃ v, e = .returned (.tuple #[v, .int .i64 (ndG N A).2]) ∧ w'.ownsRow w.heap.size 3 1 v (ndG N A).1.length (zC (ndG N A).1)) ∧ Below w.heap.size w w' := by
  obtain ⟨h1, h2⟩ := h
  rcases h1 with ⟨hA, v, e1, ow⟩ | ⟨hA, e1⟩
  · have e : ndG N A = ((nodF N A).2, 0) := by unfold ndG; rw [if_pos hA]
    rw [e]
    exact ⟨⟨v, e1, ow⟩, h2⟩
  · have e : ndG N A = ([], 1) := by unfold ndG; rw [if_neg hA]
    rw [e]
    exact ⟨⟨_, e1, World.ownsRow_nil _ _ _ _⟩, h2⟩
theorem ndG_len {A : List Int} (ok : Ok S M N) : (ndG N A).1.length ≤ 8194 := by
  unfold ndG
  by_cases hA : ∀ f ∈ A, hasR N f
  · rw [if_pos hA]
    have h1 := nod_len ok hA
    have h2 := ok.few
    have h3 := ok.m1
    show (nodF N A).2.length ≤ 8194
    omega
  · rw [if_neg hA]; exact Nat.zero_le _
end
/-- Both arenas, the world, all made since B. -/
structure PS (w : World) (B wb a x : Nat) (S : List Int) (M : Int) (N : List Nd) (P Q : Nat → Prop) (lv : Value) (D : List LD) (X : Nat → List Value) : Prop where
  sd : SD w a x S M N N P Q
  wd : Wd w B wb a x lv D X
  dis : ∀ k, P k ∨ Q k → k ≠ wb ∧ ¬ lv.ownBlock = some k ∧ ¬ FutL D 0 k
  pB : ∀ b, P b → B ≤ b
  qB : ∀ b, Q b → B ≤ b
/-- What a step leaves. -/
def PL (B wb a x : Nat) (S : List Int) (M : Int) (D : List LD) (w : World) (N' : List Nd) (w' : World) : Prop :=
  ∃ P' Q' lv' D' X', PS w' B wb a x S M N' P' Q' lv' D' X' ∧ D'.length ≤ D.length + 1 ∧ Below B w w'
section
variable {w w' : World} {B wb a x : Nat} {S : List Int} {M : Int} {N N1 : List Nd} {P Q P' Q' : Nat → Prop} {lv : Value} {D : List LD} {X : Nat → List Value}
theorem PS.below (h : PS w B wb a x S M N P Q lv D X) (y : Below w.heap.size w w') : PS w' B wb a x S M N P Q lv D X := ⟨h.sd.below y, h.wd.below y, h.dis, h.pB, h.qB⟩
theorem PS.stay (h : PS w B wb a x S M N P Q lv D X) (hB : B ≤ w.heap.size) (y : Below w.heap.size w w') : PL B wb a x S M D w N w' := ⟨P, Q, lv, D, X, h.below y, by omega, y.mono hB⟩
theorem PS.np (h : PS w B wb a x S M N P Q lv D X) : ¬ P wb := fun e => (h.dis wb (.inl e)).1 rfl
theorem PS.nq (h : PS w B wb a x S M N P Q lv D X) : ¬ Q wb := fun e => (h.dis wb (.inr e)).1 rfl
/-- A step in the arenas alone. -/
theorem PS.step (h : PS w B wb a x S M N P Q lv D X) (hB : B ≤ w.heap.size) (hs : SD w' a x S M N1 N1 P' Q') (k : Kept (fun b => P b ∨ Q b) w w') (g1 : Gw w P P') (g2 : Gw w Q Q') : PS w' B wb a x S M N1 P' Q' lv D X ∧ Below B w w' := by
  obtain ⟨l1, l2, l3⟩ := h.wd.lt
  refine ⟨⟨hs, h.wd.kept k (fun e => e.elim h.np h.nq) (fun b hb e => (h.dis b e).2.1 hb) (fun b hb e => (h.dis b e).2.2 hb), fun b hb => ?_, fun b hb => (g1 b hb).elim (h.pB b) (Nat.le_trans hB), fun b hb => (g2 b hb).elim (h.qB b) (Nat.le_trans hB)⟩, k.below hB (fun b hb => hb.elim (h.pB b) (h.qB b))⟩
  have : (P b ∨ Q b) ∨ w.heap.size ≤ b := hb.elim (fun e => (g1 b e).imp .inl id) (fun e => (g2 b e).imp .inr id)
  rcases this with e | e
  · exact h.dis b e
  · exact ⟨by omega, fun e2 => by have := (l2 b e2).2; omega, fun e2 => by have := (l3 b e2).2; omega⟩
theorem PS.stepL (h : PS w B wb a x S M N P Q lv D X) (hB : B ≤ w.heap.size) (hs : SD w' a x S M N1 N1 P' Q') (k : Kept (fun b => P b ∨ Q b) w w') (g1 : Gw w P P') (g2 : Gw w Q Q') : PL B wb a x S M D w N1 w' := by
  obtain ⟨h1, h2⟩ := h.step hB hs k g1 g2
  exact ⟨P', Q', lv, D, X, h1, by omega, h2⟩
/-- A list more. -/
theorem PS.push {w0 : World} {v lv' : Value} {n : Nat} {xs : List Value} (h : PS w B wb a x S M N P Q lv D X) (hB : B ≤ w0.heap.size) (h0 : w0.heap.size ≤ w.heap.size) (hold : ∀ k, FutL D 0 k → k < w0.heap.size) (hpq : ∀ k, P k ∨ Q k → k < w0.heap.size) (ho : w.ownsRow w0.heap.size 3 1 v n xs) (hn : n ≤ 8194) (k1 : Kept (fun k => lv.ownBlock = some k) w w') (o1 : w'.ownsRow B 22 1 lv' (D.length + 1) (D.map LD.v ++ [v])) (hnl : ∀ k, lv'.ownBlock = some k → lv.ownBlock = some k ∨ w.heap.size ≤ k) :
    ∃ X', PS (w'.setCell ⟨wb, 2, none⟩ lv') B wb a x S M N P Q lv' (D ++ [⟨v, n⟩]) X' ∧ WBk w' wb a x lv ∧ Below B w (w'.setCell ⟨wb, 2, none⟩ lv') ∧ Kept (fun k => lv.ownBlock = some k ∨ k = wb) w (w'.setCell ⟨wb, 2, none⟩ lv') := by
  have ho2 : w.ownsRow B 3 1 v n xs := by
    refine ⟨ho.1, ?_⟩
    rcases ho.2 with e | ⟨g, cap, cur, e1, e2, r⟩
    · exact .inl e
    · exact .inr ⟨g, cap, cur, e1, Nat.le_trans hB e2, r⟩
  have hnew : ∀ k, v.ownBlock = some k → w0.heap.size ≤ k := fun k hk => (World.ownsRow.lt ho k hk).1
  obtain ⟨X', wd', bk⟩ := h.wd.push (d := ⟨v, n⟩) ho2 hn hnew hold k1 o1 hnl
  obtain ⟨l1, l2, l3⟩ := h.wd.lt
  have k3 : Kept (fun k => k = wb) w' (w'.setCell ⟨wb, 2, none⟩ lv') := Kept.setCell (F := fun k => k = wb) (p := ⟨wb, 2, none⟩) (Kept.refl _ _) rfl _
  have kk : Kept (fun k => lv.ownBlock = some k ∨ k = wb) w (w'.setCell ⟨wb, 2, none⟩ lv') := (k1.mono (fun _ h => .inl h)).trans (k3.mono (fun _ h => .inr h))
  have hnp : ∀ k, P k ∨ Q k → ¬ (lv.ownBlock = some k ∨ k = wb) := fun k hk e => e.elim (h.dis k hk).2.1 (h.dis k hk).1
  refine ⟨X', ⟨⟨h.sd.ca.kept kk (fun b hb e => hnp b (.inl hb) e), h.sd.ra.kept kk (fun b hb e => hnp b (.inr hb) e), h.sd.dis⟩, wd', fun k hk => ⟨(h.dis k hk).1, fun e => ?_, fun e => ?_⟩, h.pB, h.qB⟩, bk, kk.below (Nat.le_trans hB h0) (fun b hb => hb.elim (fun e => (l2 b e).1) (fun e => by rw [e]; exact h.wd.bas)), kk⟩
  · rcases hnl k e with e2 | e2
    · exact (h.dis k hk).2.1 e2
    · have := hpq k hk; omega
  · rcases futL_app e with e2 | e2
    · exact (h.dis k hk).2.2 e2
    · have h5 := hnew k e2; have := hpq k hk; omega
end
end Go.Proofs.Ytaafeflbanoncaa
