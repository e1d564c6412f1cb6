/-
  putKids by its contract, from put's of refs that stand lower. No condition.
-/
import Derived.Test.YtaafeflbanoncaaP14
import Derived.Deep.DeepCutAuto
namespace Go.Proofs.Ytaafeflbanoncaa
open Go.RowKit Go.Lib Go.Maps

/-- What an operation may write into. -/
def Fw (c : Cf) (P : Nat → Prop) : Nat → Prop := fun k => P k ∨ k = c.rb ∨ k = c.kb
/-- What two refs are to say. -/
def phi (c : Cf) (N : List Nd) (f g : Int) : Phi := fun p => c.op (sayR N (c.q p) f) (sayR N (c.q p) g)
/-- What an operation asks for at a point. -/
structure QOk (c : Cf) : Prop where
  pnt : ∀ p, Pnt c.S p → Pnt c.S (c.q p)
  fol : ∀ p p' (l : Nat), (∀ j, l ≤ j → j < c.S.length → p j = p' j) → ∀ j, l ≤ j → j < c.S.length → c.q p j = c.q p' j
theorem phi_hang {c : Cf} {N : List Nd} {f g : Int} {l : Nat} (hq : QOk c) (h : Ok c.S c.M N) (hf : hasR N f) (hg : hasR N g) (hfl : (l : Int) ≤ lvl c.S N f) (hgl : (l : Int) ≤ lvl c.S N g) : Hang c.S (phi c N f g) l := fun p p' hp hp' hj => by
  unfold phi
  have e1 := say_hang h _ f (Nat.le_refl _) hf l hfl (c.q p) (c.q p') (hq.pnt p hp) (hq.pnt p' hp') (hq.fol p p' l hj)
  have e2 := say_hang h _ g (Nat.le_refl _) hg l hgl (c.q p) (c.q p') (hq.pnt p hp) (hq.pnt p' hp') (hq.fol p p' l hj)
  simp only at e1 e2
  rw [e1, e2]
theorem say_cut {c : Cf} {N T : List Nd} {f : Int} {l k : Nat} {p : Nat → Nat} (hq : QOk c) (h : Ok c.S c.M N) (hl : l < c.S.length) (hf : hasR N f) (hfl : (l : Int) ≤ lvl c.S N f) (hql : ∀ p, c.q p l = p l) (hk : (k : Int) < c.S.getD l 0) (hp : Pnt c.S p) : sayR N (c.q (upd p l k)) f = sayR (N ++ T) (c.q p) (kidR c.S N l f k) := by
  have kh := kidR_has (c := k) h hl hf hfl hk
  have hu := hp.upd hk
  rw [kidR_say h hl hf (hq.pnt _ hu), hql, upd_at, sayR_app h (hq.pnt p hp) kh.1]
  exact say_hang h _ _ (Nat.le_refl _) kh.1 (l + 1) (by omega) _ _ (hq.pnt _ hu) (hq.pnt p hp) (hq.fol _ _ (l + 1) (fun j h1 _ => upd_ne p k (by omega)))
theorem phi_cut {c : Cf} {N T : List Nd} {f g : Int} {l k : Nat} (hq : QOk c) (h : Ok c.S c.M N) (hl : l < c.S.length) (hf : hasR N f) (hg : hasR N g) (hfl : (l : Int) ≤ lvl c.S N f) (hgl : (l : Int) ≤ lvl c.S N g) (hql : ∀ p, c.q p l = p l) (hk : (k : Int) < c.S.getD l 0) : Alike c.S (cutP (phi c N f g) l k) (phi c (N ++ T) (kidR c.S N l f k) (kidR c.S N l g k)) := fun p hp => by
  unfold cutP phi
  rw [say_cut (T := T) hq h hl hf hfl hql hk hp, say_cut (T := T) hq h hl hg hgl hql hk hp]
theorem cuts_take {S : List Int} {φ : Phi} {l k : Nat} (hk : (k : Int) < S.getD l 0) : (cuts S φ l).take (k + 1) = (cuts S φ l).take k ++ [cutP φ l k] := by
  have hlt : k < (cuts S φ l).length := by rw [cuts_length]; omega
  rw [List.take_succ_eq_append_getElem hlt]
  simp [cuts]
/-- What put leaves. -/
def PutL (c : Cf) (N : List Nd) (P G : Nat → Prop) (f g : Int) (w : World) (e : Ending) (w' : World) : Prop :=
  ∃ r er N' P' G', e = .returned (.tuple #[.int .i64 r, .int .i64 er]) ∧ MS w' c N' P' G' ∧ (∃ T, N' = N ++ T) ∧ Kept (Fw c P) w w' ∧ Gw w P P' ∧ Gw w G G' ∧ ins c.S c.M N (phi c N f g) = (r, er, N') ∧ ((er = 0 ∧ PtOk c.S N' c.op c.q f g r) ∨ (er = 2 ∧ r = 0))
/-- What putKids leaves. -/
def PkL (c : Cf) (N : List Nd) (P G : Nat → Prop) (l : Nat) (f g : Int) (w : World) (e : Ending) (w' : World) : Prop :=
  ∃ v er N' P' G', e = .returned (.tuple #[v, .int .i64 er]) ∧ MS w' c N' P' G' ∧ (∃ T, N' = N ++ T) ∧ Kept (Fw c P) w w' ∧ Gw w P P' ∧ Gw w G G' ∧
    ((er = 0 ∧ ∃ ob ks cp, v = .slice (some ⟨ob, 0, none⟩) ks.length cp ∧ ZBk w' ob ks ∧ (ks.length : Int) = c.S.getD l 0 ∧ (∀ i, i < ks.length → PtOk c.S N' c.op c.q (kidR c.S N l f i) (kidR c.S N l g i) (ks.getD i 0)) ∧ kidsF (ins c.S c.M) N (cuts c.S (phi c N f g) l) = (ks, 0, N')) ∨ (er = 2 ∧ v = .slice none 0 0 ∧ kidsF (ins c.S c.M) N (cuts c.S (phi c N f g) l) = ([], 2, N')))
section
variable {w : World} {c : Cf} {N : List Nd} {P G : Nat → Prop}
/-- Does a ref ask that level? -/
def Ask (c : Cf) (N : List Nd) (l : Nat) (f : Int) (b : Bool) : Prop := b = true ↔ lvl c.S N f = (l : Int)
theorem Ask.yes {l : Nat} {f : Int} (h : lvl c.S N f = (l : Int)) : Ask c N l f true := ⟨fun _ => h, fun _ => rfl⟩
theorem Ask.no {l : Nat} {f : Int} (h : lvl c.S N f ≠ (l : Int)) : Ask c N l f false := ⟨fun h => (Bool.noConfusion h), fun e => absurd e h⟩
/-- The length of kids. -/
def kvN (c : Cf) (N : List Nd) (l : Nat) (f : Int) : Nat := if lvl c.S N f = (l : Int) then (c.S.getD l 0).toNat else 0
theorem KvA.shape {l : Nat} {f : Int} {v : Value} (h : KvA c N P l f v w) : ∃ ao cp, v = .slice ao (kvN c N l f) cp := by
  rcases h with ⟨h1, h2⟩ | ⟨h1, g, cp, ks, h2, h3, _⟩
  · exact ⟨none, 0, by rw [h2]; unfold kvN; rw [if_neg h1]⟩
  · refine ⟨some ⟨g, 0, none⟩, cp, ?_⟩
    unfold kvN
    rw [if_pos h1, h2, ← h3.len, Int.toNat_natCast]
theorem kvN_max {l n : Nat} {f g : Int} (hm : min (lvl c.S N f) (lvl c.S N g) = (l : Int)) (hn : (n : Int) = c.S.getD l 0) : max ((kvN c N l f : Nat) : Int) ((kvN c N l g : Nat) : Int) = (n : Int) ∧ (if ((kvN c N l f : Nat) : Int) ≤ ((kvN c N l g : Nat) : Int) then ((kvN c N l g : Nat) : Int) else ((kvN c N l f : Nat) : Int)) = (n : Int) := by
  have e : (c.S.getD l 0).toNat = n := by omega
  unfold kvN
  rw [e]
  by_cases h1 : lvl c.S N f = (l : Int) <;> by_cases h2 : lvl c.S N g = (l : Int)
  · rw [if_pos h1, if_pos h2]; exact ⟨by omega, by split <;> omega⟩
  · rw [if_pos h1, if_neg h2]; exact ⟨by omega, by split <;> omega⟩
  · rw [if_neg h1, if_pos h2]; exact ⟨by omega, by split <;> omega⟩
  · omega
/-- Some kids are put together. -/
structure PkI (c : Cf) (N : List Nd) (P G : Nat → Prop) (l : Nat) (f g : Int) (w3 : World) (ob n k : Nat) (N' : List Nd) (P' G' : Nat → Prop) (ks : List Int) (wr : World) : Prop where
  ms : MS wr c N' P' G'
  ext : ∃ T, N' = N ++ T
  kp : Kept (Fw c P) w3 wr
  pp : Gw w3 P P'
  gg : Gw w3 G G'
  np : ¬ P' ob
  ng : ¬ G' ob
  nx : ∀ x ∈ c.xs, x.1 ≠ ob
  len : ks.length = k
  out : RwZ wr ob (ks ++ List.replicate (n - k) 0)
  ok : ∀ i, i < k → PtOk c.S N' c.op c.q (kidR c.S N l f i) (kidR c.S N l g i) (ks.getD i 0)
  kf : kidsF (ins c.S c.M) N ((cuts c.S (phi c N f g) l).take k) = (ks, 0, N')
theorem PkI.next {l ob n k : Nat} {f g r : Int} {w3 wr w5 w6 w7 : World} {N' N2 : List Nd} {P' G' P2 G2 : Nat → Prop} {ks : List Int} (hq : QOk c) (hql : ∀ p, c.q p l = p l) (hl : l < c.S.length) (hf : hasR N f) (hg : hasR N g) (h0 : Ok c.S c.M N) (hfl : (l : Int) ≤ lvl c.S N f) (hgl : (l : Int) ≤ lvl c.S N g) (hn : (n : Int) = c.S.getD l 0) (h : PkI c N P G l f g w3 ob n k N' P' G' ks wr) (hk : k < n) (hob : w3.heap.size ≤ ob) (x5 : Below wr.heap.size wr w5)
    (m6 : MS w6 c N2 P2 G2) (e6 : ∃ T, N2 = N' ++ T) (k6 : Kept (Fw c P') w5 w6) (p6 : Gw w5 P' P2) (g6 : Gw w5 G' G2) (ok6 : PtOk c.S N2 c.op c.q (kidR c.S N l f k) (kidR c.S N l g k) r) (in6 : ins c.S c.M N' (phi c N' (kidR c.S N l f k) (kidR c.S N l g k)) = (r, 0, N2)) (hw : w7 = w6.setCell ⟨ob, k, none⟩ (.int .i64 r)) : PkI c N P G l f g w3 ob n (k + 1) N2 P2 G2 (ks ++ [r]) w7 := by
  have hobl : ob < w5.heap.size := Nat.lt_of_lt_of_le h.out.lt x5.size
  obtain ⟨T, hT⟩ := h.ext
  obtain ⟨T2, hT2⟩ := e6
  have hnr : ob ≠ c.rb ∧ ob ≠ c.kb ∧ ob ≠ c.mm := by
    have ho := h.out
    unfold RwZ at ho
    refine ⟨fun e => ?_, fun e => ?_, fun e => ?_⟩
    · obtain ⟨es, cl, h1⟩ := h.ms.res.blk
      rw [← e, ho] at h1
      cases h1
    · obtain ⟨es, cl, h1⟩ := h.ms.kid.blk
      rw [← e, ho] at h1
      cases h1
    · have h1 := h.ms.blk
      rw [← e, ho] at h1
      simp only [Option.some.injEq, Obj.cells.injEq] at h1
      exact absurd h1.2.1 (by decide)
  have o6 : RwZ w6 ob (ks ++ List.replicate (n - k) 0) := (h.out.below x5).kept k6 (fun hf => hf.elim h.np (fun h1 => h1.elim hnr.1 hnr.2.1))
  have np2 : ¬ P2 ob := p6.not hobl h.np
  have ng2 : ¬ G2 ob := g6.not hobl h.ng
  have ks6 : Kept (fun b => b = ob) w6 w7 := by rw [hw]; exact (Kept.refl (fun b => b = ob) w6).setCell (p := ⟨ob, k, none⟩) rfl _
  have kwr : Kept (Fw c P) w3 w6 := (h.kp.trans (Kept.of_below x5)).trans_new k6 (fun b hb hF => hF.elim (fun h1 => .inl ((h.pp b h1).elim id (fun h2 => by omega))) .inr)
  refine ⟨m6.other ks6 np2 ng2 hnr.2.2 hnr.1 hnr.2.1 h.nx, ⟨T ++ T2, by rw [hT2, hT, List.append_assoc]⟩, kwr.trans_new ks6 (fun b hb e => by omega), h.pp.trans p6 (Nat.le_trans h.kp.size x5.size), h.gg.trans g6 (Nat.le_trans h.kp.size x5.size), np2, ng2, h.nx, by rw [List.length_append, h.len]; rfl, ?_, fun i hi => ?_, ?_⟩
  · have := o6.set k r
    rw [hw]
    have e : (ks ++ List.replicate (n - k) 0).set k r = ks ++ [r] ++ List.replicate (n - (k + 1)) 0 := by
      rw [List.set_append_right _ _ (by rw [h.len]; exact Nat.le_refl _), h.len, Nat.sub_self, show n - k = (n - (k + 1)) + 1 by omega, List.replicate_succ, List.set_cons_zero, List.append_assoc]
      rfl
    rwa [e] at this
  · by_cases hik : i < k
    · have e : (ks ++ [r]).getD i 0 = ks.getD i 0 := by rw [List.getD_eq_getElem?_getD, List.getElem?_append_left (by rw [h.len]; exact hik), ← List.getD_eq_getElem?_getD]
      rw [e, hT2]
      have hc : (i : Int) < c.S.getD l 0 := by omega
      have a1 := (kidR_has (c := i) h0 hl hf hfl hc).1
      have a2 := (kidR_has (c := i) h0 hl hg hgl hc).1
      exact (h.ok i hik).app h.ms.ca.ok hq.pnt (by rw [hT]; exact hasR_app a1) (by rw [hT]; exact hasR_app a2)
    · obtain rfl : i = k := by omega
      have e : (ks ++ [r]).getD i 0 = r := by rw [List.getD_eq_getElem?_getD, List.getElem?_append_right (by rw [h.len]; exact Nat.le_refl _), h.len, Nat.sub_self]; rfl
      rw [e]
      exact ok6
  · have hkc : (k : Int) < c.S.getD l 0 := by omega
    have ha := phi_cut (T := T) hq h0 hl hf hg hfl hgl hql hkc
    rw [← hT] at ha
    have hh : Hang c.S (cutP (phi c N f g) l k) 0 := ((phi_hang hq h0 hf hg hfl hgl).cut hkc).all
    have e : ins c.S c.M N' (cutP (phi c N f g) l k) = (r, 0, N2) := (ins_alike h.ms.ca.ok hh ha).trans in6
    rw [cuts_take hkc, kids_snoc _ _ _ _ h.kf, e, if_pos rfl]
theorem PkI.failed {l ob n k : Nat} {f g r : Int} {w3 wr : World} {N' N2 : List Nd} {P' G' : Nat → Prop} {ks : List Int} (h : PkI c N P G l f g w3 ob n k N' P' G' ks wr) (hq : QOk c) (hql : ∀ p, c.q p l = p l) (hl : l < c.S.length) (hf : hasR N f) (hg : hasR N g) (h0 : Ok c.S c.M N) (hfl : (l : Int) ≤ lvl c.S N f) (hgl : (l : Int) ≤ lvl c.S N g) (hkc : (k : Int) < c.S.getD l 0)
    (in6 : ins c.S c.M N' (phi c N' (kidR c.S N l f k) (kidR c.S N l g k)) = (r, 2, N2)) : kidsF (ins c.S c.M) N (cuts c.S (phi c N f g) l) = ([], 2, N2) := by
  obtain ⟨T, hT⟩ := h.ext
  have ha := phi_cut (T := T) hq h0 hl hf hg hfl hgl hql hkc
  rw [← hT] at ha
  have hh : Hang c.S (cutP (phi c N f g) l k) 0 := ((phi_hang hq h0 hf hg hfl hgl).cut hkc).all
  have e : ins c.S c.M N' (cutP (phi c N f g) l k) = (r, 2, N2) := (ins_alike h.ms.ca.ok hh ha).trans in6
  have e2 : kidsF (ins c.S c.M) N ((cuts c.S (phi c N f g) l).take (k + 1)) = ([], 2, N2) := by
    rw [cuts_take hkc, kids_snoc _ _ _ _ h.kf, e, if_neg (show ¬ (2 : Int) = 0 by decide)]
  have := kids_stop _ _ _ _ (by decide) e2 ((cuts c.S (phi c N f g) l).drop (k + 1))
  rwa [List.take_append_drop] at this
theorem PkI.frame {w1 w3 wr : World} {P' G' G3 : Nat → Prop} (x1 : Below w.heap.size w w1) (q3 : Kept (fun k => k = c.kb) w1 w3) (gw3 : Gw w1 G G3) (kp : Kept (Fw c P) w3 wr) (pp : Gw w3 P P') (gg : Gw w3 G3 G') : Kept (Fw c P) w wr ∧ Gw w P P' ∧ Gw w G G' := by
  have k3 : Kept (Fw c P) w w3 := (Kept.of_below x1).trans_new q3 (fun b _ e => .inr (.inr e))
  exact ⟨k3.trans kp, fun b hb => (pp b hb).imp id (Nat.le_trans k3.size), fun b hb => (gg b hb).elim (fun h1 => (gw3 b h1).imp id (Nat.le_trans x1.size)) (fun h1 => .inr (Nat.le_trans k3.size h1))⟩
theorem PkI.more {l ob n k : Nat} {f g : Int} {w3 wr w5 w6 : World} {N' N2 : List Nd} {P' G' P2 G2 : Nat → Prop} {ks : List Int} (h : PkI c N P G l f g w3 ob n k N' P' G' ks wr) (x5 : Below wr.heap.size wr w5) (e6 : ∃ T, N2 = N' ++ T) (k6 : Kept (Fw c P') w5 w6) (p6 : Gw w5 P' P2) (g6 : Gw w5 G' G2) : Kept (Fw c P) w3 w6 ∧ Gw w3 P P2 ∧ Gw w3 G G2 ∧ ∃ T, N2 = N ++ T := by
  obtain ⟨T, hT⟩ := h.ext
  obtain ⟨T2, hT2⟩ := e6
  exact ⟨(h.kp.trans (Kept.of_below x5)).trans_new k6 (fun b hb hF => hF.elim (fun h1 => .inl ((h.pp b h1).elim id (fun h2 => by omega))) .inr), h.pp.trans p6 (Nat.le_trans h.kp.size x5.size), h.gg.trans g6 (Nat.le_trans h.kp.size x5.size), ⟨T ++ T2, by rw [hT2, hT, List.append_assoc]⟩⟩
set_option maxRecDepth 100000 in
set_option maxHeartbeats 4000000 in
theorem putKids_any {l : Nat} {f g : Int} (hq : QOk c) (hql : ∀ p, c.q p l = p l) (h : MS w c N P G) (hf : hasR N f) (hg : hasR N g) (hz : c.Z → g = 0) (hl : l < c.S.length) (hm : min (lvl c.S N f) (lvl c.S N g) = (l : Int))
    (hp : ∀ w N P G f g, MS w c N P G → hasR N f → hasR N g → (c.Z → g = 0) → (l : Int) < lvl c.S N f → (l : Int) < lvl c.S N g → Calls Try.prog 79 #[.pointer (some ⟨c.mm, 0, none⟩), .agg #[.int .i64 f, .int .i64 g]] w fun e w' => PutL c N P G f g w e w') :
    Calls Try.prog 81 #[.pointer (some ⟨c.mm, 0, none⟩), .agg #[.int .i64 f, .int .i64 g], .int .i64 (l : Int)] w fun e w' => PkL c N P G l f g w e w' := by
  have HH := hide h
  have HF := hide hf
  have HG := hide hg
  have HZ := hide hz
  have HM := hide hm
  have HP := hide hp
  have HQ := hide hq
  have HQL := hide hql
  have y1 : Below w.heap.size w (w.alloc (.cells #[.int .i64 f, .int .i64 g] 100)) := al (Below.refl _ _) _
  have X1 := hide (bt y1 (Below.refl _ (w.alloc (.cells #[.int .i64 f, .int .i64 g] 100))).drew (Nat.le_refl _))
  have nb : (w.alloc (.cells #[.int .i64 f, .int .i64 g] 100)).drew.heap[w.heap.size]? = some (.cells #[.int .i64 f, .int .i64 g] 100 (0, 0)) := heap_alloc_new w _
  clear h hf hg hz hm hp hq hql y1
  go_enter Try.func81, Try.ntmps81
  go_upto_region 1 with fail
  have H1 := hide (HH.out.below X1.out)
  have PB : Hid (¬ P w.heap.size) := fun h => by have := HH.out.ca.plt h; omega
  refine wp_unt (S := fun V => V.heap[w.heap.size]? = some (.cells #[.int .i64 f, .int .i64 g] 100 (0, 0))) 11 (by kernel_rfl) ?_
  generalize (w.alloc (.cells #[.int .i64 f, .int .i64 g] 100)).drew = w1 at *
  generalize hpb : w.heap.size = pb at *
  have HPB := hide hpb
  clear hpb
  have hcell : ∀ V : World, V.heap[pb]? = some (.cells #[.int .i64 f, .int .i64 g] 100 (0, 0)) → V.cell? ⟨pb, 0, none⟩ = some (.int .i64 f) ∧ V.cell? ⟨pb, 1, none⟩ = some (.int .i64 g) := fun V hV => by
    constructor <;> (rw [cell_of_row V pb _ _ _ _ hV]; rfl)
  have HC := hide hcell
  clear hcell
  refine UntH.take (i := 0) (some 15) rfl rfl (by kernel_rfl) (by kernel_rfl) (by kernel_rfl) (by kernel_rfl) (fun _ _ _ _ h => h) (by rfl) nb ?_
  apply Exists.intro
  refine ⟨fun w' hw' => ?_, ?_⟩
  · (obtain ⟨q0, q1⟩ := HC.out w' hw')
    go_simp
    first | done | rfl
  try simp only [Act.put, List.setIfInBounds_toArray, List.set_cons_zero, List.set_cons_succ]
  refine UntH.take (i := 1) (some 16) rfl rfl (by kernel_rfl) (by kernel_rfl) (by kernel_rfl) (by kernel_rfl) (fun _ _ _ _ h => h) (by rfl) nb ?_
  apply Exists.intro
  refine ⟨fun w' hw' => ?_, ?_⟩
  · (obtain ⟨q0, q1⟩ := HC.out w' hw')
    go_simp
    first | done | rfl
  try simp only [Act.put, List.setIfInBounds_toArray, List.set_cons_zero, List.set_cons_succ]
  refine UntH.take (i := 2) (some 17) rfl rfl (by kernel_rfl) (by kernel_rfl) (by kernel_rfl) (by kernel_rfl) (fun _ _ _ _ h => h) (by rfl) nb ?_
  apply Exists.intro
  refine ⟨fun w' hw' => ?_, ?_⟩
  · (obtain ⟨q0, q1⟩ := HC.out w' hw')
    go_simp
    first | done | rfl
  try simp only [Act.put, List.setIfInBounds_toArray, List.set_cons_zero, List.set_cons_succ]
  refine UntH.take (i := 3) (some 18) rfl rfl (by kernel_rfl) (by kernel_rfl) (by kernel_rfl) (by kernel_rfl) (fun _ _ _ _ h => h) (by rfl) nb ?_
  apply Exists.intro
  refine ⟨fun w' hw' => ?_, ?_⟩
  · (obtain ⟨q0, q1⟩ := HC.out w' hw')
    go_simp
    first | done | rfl
  try simp only [Act.put, List.setIfInBounds_toArray, List.set_cons_zero, List.set_cons_succ]
  refine UntH.take (i := 5) (some 20) rfl rfl (by kernel_rfl) (by kernel_rfl) (by kernel_rfl) (by kernel_rfl) (fun _ _ _ _ h => h) (by rfl) nb ?_
  apply Exists.intro
  refine ⟨fun w' hw' => ?_, ?_⟩
  · (obtain ⟨q0, q1⟩ := HC.out w' hw')
    go_simp
    first | done | rfl
  try simp only [Act.put, List.setIfInBounds_toArray, List.set_cons_zero, List.set_cons_succ]
  refine UntH.take (i := 6) (some 21) rfl rfl (by kernel_rfl) (by kernel_rfl) (by kernel_rfl) (by kernel_rfl) (fun _ _ _ _ h => h) (by rfl) nb ?_
  apply Exists.intro
  refine ⟨fun w' hw' => ?_, ?_⟩
  · (obtain ⟨q0, q1⟩ := HC.out w' hw')
    go_simp
    first | done | rfl
  try simp only [Act.put, List.setIfInBounds_toArray, List.set_cons_zero, List.set_cons_succ]
  refine UntH.take (i := 7) (some 22) rfl rfl (by kernel_rfl) (by kernel_rfl) (by kernel_rfl) (by kernel_rfl) (fun _ _ _ _ h => h) (by rfl) nb ?_
  apply Exists.intro
  refine ⟨fun w' hw' => ?_, ?_⟩
  · (obtain ⟨q0, q1⟩ := HC.out w' hw')
    go_simp
    first | done | rfl
  try simp only [Act.put, List.setIfInBounds_toArray, List.set_cons_zero, List.set_cons_succ]
  refine UntH.take (i := 8) (some 23) rfl rfl (by kernel_rfl) (by kernel_rfl) (by kernel_rfl) (by kernel_rfl) (fun _ _ _ _ h => h) (by rfl) nb ?_
  apply Exists.intro
  refine ⟨fun w' hw' => ?_, ?_⟩
  · (obtain ⟨q0, q1⟩ := HC.out w' hw')
    go_simp
    first | done | rfl
  try simp only [Act.put, List.setIfInBounds_toArray, List.set_cons_zero, List.set_cons_succ]
  have K1 := hide (kidsAt_any H1.out HF.out hl)
  refine UntH.step (i := 4) (by kernel_rfl) rfl (fun K hK => ?_)
  go_simp
  refine K1.out.mono ?_
  rintro e w2 ⟨v1, G2, rfl, u1, m2, gw2, k2⟩
  have nb2 : w2.heap[pb]? = some (.cells #[.int .i64 f, .int .i64 g] 100 (0, 0)) := (k2.block pb (lt_of_block nb) (fun e => by
    obtain ⟨es, cl, h1⟩ := H1.out.kid.blk
    rw [← e, nb] at h1
    cases h1)).trans nb
  go_simp
  refine hK _ _ nb2 ?_
  clear hK K K1
  have M2 := hide m2
  have U1 : Hid (KvA c N P l f v1 w2) := u1
  have Q2 := hide k2
  have GW2 := hide gw2
  clear m2 u1 k2 gw2
  have K2 := hide (kidsAt_any M2.out HG.out hl)
  refine UntH.step (i := 9) (by kernel_rfl) rfl (fun K hK => ?_)
  go_simp
  refine K2.out.mono ?_
  rintro e w3 ⟨v2, G3, rfl, u2, m3, gw3, k3⟩
  have nb3 : w3.heap[pb]? = some (.cells #[.int .i64 f, .int .i64 g] 100 (0, 0)) := (k3.block pb (lt_of_block nb2) (fun e => by
    obtain ⟨es, cl, h1⟩ := M2.out.kid.blk
    rw [← e, nb2] at h1
    cases h1)).trans nb2
  go_simp
  refine hK _ _ nb3 ?_
  clear hK K K2
  have M3 := hide m3
  have U2 : Hid (KvA c N P l g v2 w3) := u2
  have U3 : Hid (KvA c N P l f v1 w3) := U1.out.kept k3 (fun b L hb _ e => by
    obtain ⟨es, cl, h1⟩ := M2.out.kid.blk
    exact hb.not_map h1 e)
  have Q3 := hide (Q2.out.trans k3)
  have GW3 := hide (GW2.out.trans gw3 Q2.out.size)
  clear m3 u2 k3 U1 Q2 gw3 GW2
  refine UntH.take (i := 10) (some 8) rfl rfl (by kernel_rfl) (by kernel_rfl) (by kernel_rfl) (by kernel_rfl) (fun _ _ _ _ h => h) (by rfl) nb3 ?_
  apply Exists.intro
  refine ⟨fun w' hw' => ?_, ?_⟩
  · (obtain ⟨q0, q1⟩ := HC.out w' hw')
    go_simp
    first | done | rfl
  try simp only [Act.put, List.setIfInBounds_toArray, List.set_cons_zero, List.set_cons_succ]
  refine UntH.last (by kernel_rfl) rfl (by kernel_rfl) (by kernel_rfl) (fun K hK => ?_)
  go_simp
  refine hK _ _ ?_
  clear hK K
  clear nb nb2 M2 H1
  have hsz := HH.out.ca.ok.sz
  obtain ⟨n, hn⟩ : ∃ n : Nat, (n : Int) = c.S.getD l 0 := ⟨(c.S.getD l 0).toNat, by have := (hsz.each _ (getD_mem hl)).1; omega⟩
  have hn1 : 1 ≤ n ∧ n ≤ 256 := by have := hsz.each _ (getD_mem hl); omega
  obtain ⟨hn0, hn2⟩ := hn1
  have HN := hide hn
  obtain ⟨mx1, mx2⟩ := kvN_max HM.out hn
  obtain ⟨a1, c1, hv1⟩ := U3.out.shape
  obtain ⟨a2, c2, hv2⟩ := U2.out.shape
  subst hv1 hv2
  obtain ⟨n1, hn1⟩ : ∃ n1, kvN c N l f = n1 := ⟨_, rfl⟩
  obtain ⟨n2', hn2'⟩ : ∃ n2, kvN c N l g = n2 := ⟨_, rfl⟩
  rw [hn1, hn2'] at mx1 mx2
  rw [hn1] at U3
  rw [hn2'] at U2
  rw [hn1, hn2']
  clear hn1 hn2' hn hsz
  have hmk1 : (n1 : Int) = (n : Int) ∨ (n2' : Int) = (n : Int) := by omega
  have NB3 := hide nb3
  clear nb3
  have MX := hide mx1
  clear mx1 mx2 hmk1
  go_upto_region 2 with fail
  go_cut [10] (fun v wx => v = .slice (some ⟨w3.heap.size, 0, none⟩) n n ∧ Hid (RwZ wx w3.heap.size (List.replicate n 0) ∧ Below w3.heap.size w3 wx))
  case first =>
    have y4 : Below w3.heap.size w3 (w3.alloc (.cells (zC (List.replicate n 0)).toArray 3)) := al (Below.refl _ _) _
    have R4 := hide (And.intro (RwZ.made w3 (List.replicate n 0)) y4)
    clear y4
    by_cases hle : n1 < n2'
    · have hle' : (n1 : Int) < (n2' : Int) := by omega
      have e2 : n2' = n := by have := MX.out; omega
      subst e2
      have hmk := make_ints n2' (n2' : Int) rfl (by omega)
      go_wp2
      go_meet
      exact ⟨rfl, R4⟩
    · have hle' : ¬ (n1 : Int) < (n2' : Int) := by omega
      have e2 : n1 = n := by have := MX.out; omega
      subst e2
      have hmk := make_ints n1 (n1 : Int) rfl (by omega)
      go_wp2
      go_meet
      exact ⟨rfl, R4⟩
  obtain ⟨rfl, R4⟩ := hcut
  obtain ⟨w4, hw4⟩ : ∃ w4, w4 = wc := ⟨_, rfl⟩
  subst hw4
  generalize hob : w3.heap.size = ob at *
  have HOB := hide hob
  clear hob
  have I4 : Hid (PkI c N P G3 l f g w3 ob n 0 N P G3 [] w4) := by
    have h1 := HOB.out
    refine ⟨M3.out.below (by rw [h1]; exact R4.out.2), ⟨[], by simp⟩, Kept.of_below (by rw [h1]; exact R4.out.2), Gw.refl _ _, Gw.refl _ _, fun hp => ?_, fun hp => ?_, fun x hx e => ?_, rfl, by simpa using R4.out.1, fun i hi => by omega, rfl⟩
    · have := M3.out.ca.plt hp
      omega
    · have := M3.out.gl _ hp
      omega
    · have := lt_of_block2 (M3.out.ext x hx).1
      omega
  go_wp2
  go_loopw [33] (fun x wr => ∃ k : Nat, k ≤ n ∧ x = .int .i64 k ∧ ∃ N' P' G' ks, Hid (PkI c N P G3 l f g w3 ob n k N' P' G' ks wr)) (fun x _ => n - (RowKit.intOf x).toNat)
  case atStart => exact ⟨0, Nat.zero_le _, rfl, N, P, G3, [], I4⟩
  case round =>
    obtain ⟨k, hk, rfl, N', P', G', ks, I⟩ := hrel
    by_cases hlt : k < n
    · have hlt' : (k : Int) < n := by omega
      have nbr : wr.heap[pb]? = some (.cells #[.int .i64 f, .int .i64 g] 100 (0, 0)) := (I.out.kp.block pb (lt_of_block NB3.out) (fun hF => by
        rcases hF with h1 | h1 | h1
        · exact PB.out h1
        · obtain ⟨es, cl, h2⟩ := M3.out.res.blk
          rw [← h1, NB3.out] at h2
          cases h2
        · obtain ⟨es, cl, h2⟩ := M3.out.kid.blk
          rw [← h1, NB3.out] at h2
          cases h2)).trans NB3.out
      obtain ⟨pb0, pb1⟩ := HC.out wr nbr
      have hkF : ∀ b L, ZBk w3 b L → ¬ P b → ¬ Fw c P b := fun b L hb hp hF => by
        rcases hF with h1 | h1 | h1
        · exact hp h1
        · obtain ⟨es, cl, h2⟩ := M3.out.res.blk
          exact hb.not_map h2 h1
        · obtain ⟨es, cl, h2⟩ := M3.out.kid.blk
          exact hb.not_map h2 h1
      have V1 := U3.out.kept I.out.kp hkF
      have V2 := U2.out.kept I.out.kp hkF
      clear nbr hkF
      have W1 := hide V1
      have W2 := hide V2
      clear V1 V2
      obtain ⟨x1, hx1⟩ : ∃ x, kidR c.S N l f k = x := ⟨_, rfl⟩
      obtain ⟨x2, hx2⟩ : ∃ x, kidR c.S N l g k = x := ⟨_, rfl⟩
      have HX1 := hide hx1
      have HX2 := hide hx2
      clear hx1 hx2
      have y5 : Below wr.heap.size wr (wr.alloc (.cells #[.int .i64 f, .int .i64 g] 100)) := al (Below.refl _ _) _
      have B5 : Hid ((wr.alloc (.cells #[.int .i64 f, .int .i64 g] 100)).heap[wr.heap.size]? = some (.cells #[.int .i64 f, .int .i64 g] 100 (0, 0)) ∧ Below wr.heap.size wr (wr.alloc (.cells #[.int .i64 f, .int .i64 g] 100))) := ⟨heap_alloc_new wr _, y5⟩
      clear y5
      go_upto_region 7 with fail
      generalize wr.alloc (.cells #[.int .i64 f, .int .i64 g] 100) = w5 at *
      generalize hnb : wr.heap.size = nb at *
      have HNB := hide hnb
      clear hnb
      go_cut [38] (fun v wx => Hid (wx = w5) ∧ ∃ b : Bool, v = .bool b ∧ Hid (Ask c N l f b))
      case first =>
        rcases W1.out with ⟨e1, hv⟩ | ⟨e1, g1, cp1, ks1, hv, nd1, z1, np1⟩
        · injection hv with h1 h2 h3
          subst h1 h2 h3
          have E1 := hide (Ask.no (c := c) e1)
          clear e1
          go_wp2
          go_meet
          exact ⟨rfl, false, rfl, E1⟩
        · injection hv with h1 h2 h3
          subst h1 h2 h3
          have E1 := hide (Ask.yes (c := c) e1)
          clear e1 nd1 z1 np1
          go_wp2
          go_meet
          exact ⟨rfl, true, rfl, E1⟩
      obtain ⟨h1, b1, rfl, b1A⟩ := hcut
      have h2 := h1.out.symm
      clear h1
      subst h2
      have b1B := B5
      go_upto_if 38 with fail
      go_cut [] (fun wx => Hid (wx.heap[nb]? = some (.cells #[.int .i64 x1, .int .i64 g] 100 (0, 0)) ∧ Below nb wr wx))
      case first =>
        have hcb := b1B.out.1
        have cb0 : w5.cell? ⟨nb, 0, none⟩ = _ := cell_of_row w5 nb 0 _ _ _ hcb
        have cb1 : w5.cell? ⟨nb, 1, none⟩ = _ := cell_of_row w5 nb 1 _ _ _ hcb
        have fb := frozen_of_row w5 nb 0 _ _ hcb
        simp at cb0 cb1
        cases b1 with
        | false =>
          have E1 : Hid (x1 = f) := HX1.out.symm.trans (kidR_self (fun h => Bool.noConfusion (b1A.out.2 h)))
          clear hcb
          go_wp2
          go_meet
          rw [E1.out]
          exact b1B
        | true =>
          have e1 := b1A.out.1 rfl
          rcases W1.out with ⟨e2, hv⟩ | ⟨_, g1, cp1, ks1, hv, nd1, z1, np1⟩
          · exact absurd e1 e2
          injection hv with h1 h2 h3
          subst h1 h2 h3
          have hk1 : k < ks1.length := by have := nd1.len; have := HN.out; omega
          have hk2 : (k : Int) < (ks1.length : Int) := by omega
          have q1 := (z1.below (by rw [HNB.out]; exact b1B.out.2)).cell hk1
          rw [← kidR_node (c := k) nd1, HX1.out] at q1
          have S1 : Hid ((w5.setCell ⟨nb, 0, none⟩ (.int .i64 x1)).heap[nb]? = some (.cells #[.int .i64 x1, .int .i64 g] 100 (0, 0)) ∧ Below nb wr (w5.setCell ⟨nb, 0, none⟩ (.int .i64 x1))) := ⟨by rw [block_setCell hcb 0]; rfl, bl b1B.out.2 (Nat.le_refl _) _ _⟩
          clear e1 nd1 z1 np1 hcb
          go_wp2
          go_meet
          exact S1
      have B6 := hcut
      clear hcut b1A b1B B5
      obtain ⟨w6, hw6⟩ : ∃ w6, w6 = wc := ⟨_, rfl⟩
      subst hw6
      go_upto_region 9 with fail
      go_cut [45] (fun v wx => Hid (wx = w6) ∧ ∃ b : Bool, v = .bool b ∧ Hid (Ask c N l g b))
      case first =>
        rcases W2.out with ⟨e1, hv⟩ | ⟨e1, g1, cp1, ks1, hv, nd1, z1, np1⟩
        · injection hv with h1 h2 h3
          subst h1 h2 h3
          have E1 := hide (Ask.no (c := c) e1)
          clear e1
          go_wp2
          go_meet
          exact ⟨rfl, false, rfl, E1⟩
        · injection hv with h1 h2 h3
          subst h1 h2 h3
          have E1 := hide (Ask.yes (c := c) e1)
          clear e1 nd1 z1 np1
          go_wp2
          go_meet
          exact ⟨rfl, true, rfl, E1⟩
      obtain ⟨h1, b2, rfl, b2A⟩ := hcut
      have h2 := h1.out.symm
      clear h1
      subst h2
      have b2B := B6
      go_upto_if 45 with fail
      go_cut [] (fun wx => Hid (wx.heap[nb]? = some (.cells #[.int .i64 x1, .int .i64 x2] 100 (0, 0)) ∧ Below nb wr wx))
      case first =>
        have hcb := b2B.out.1
        have cb0 : w6.cell? ⟨nb, 0, none⟩ = _ := cell_of_row w6 nb 0 _ _ _ hcb
        have cb1 : w6.cell? ⟨nb, 1, none⟩ = _ := cell_of_row w6 nb 1 _ _ _ hcb
        have fb := frozen_of_row w6 nb 1 _ _ hcb
        simp at cb0 cb1
        cases b2 with
        | false =>
          have E1 : Hid (x2 = g) := HX2.out.symm.trans (kidR_self (fun h => Bool.noConfusion (b2A.out.2 h)))
          clear hcb
          go_wp2
          go_meet
          rw [E1.out]
          exact b2B
        | true =>
          have e1 := b2A.out.1 rfl
          rcases W2.out with ⟨e2, hv⟩ | ⟨_, g1, cp1, ks1, hv, nd1, z1, np1⟩
          · exact absurd e1 e2
          injection hv with h1 h2 h3
          subst h1 h2 h3
          have hk1 : k < ks1.length := by have := nd1.len; have := HN.out; omega
          have hk2 : (k : Int) < (ks1.length : Int) := by omega
          have q1 := (z1.below (by rw [HNB.out]; exact b2B.out.2)).cell hk1
          rw [← kidR_node (c := k) nd1, HX2.out] at q1
          have S1 : Hid ((w6.setCell ⟨nb, 1, none⟩ (.int .i64 x2)).heap[nb]? = some (.cells #[.int .i64 x1, .int .i64 x2] 100 (0, 0)) ∧ Below nb wr (w6.setCell ⟨nb, 1, none⟩ (.int .i64 x2))) := ⟨by rw [block_setCell hcb 1]; rfl, bl b2B.out.2 (Nat.le_refl _) _ _⟩
          clear e1 nd1 z1 np1 hcb
          go_wp2
          go_meet
          exact S1
      have B7 := hcut
      clear hcut b2A b2B B6
      obtain ⟨w7, hw7⟩ : ∃ w7, w7 = wc := ⟨_, rfl⟩
      subst hw7
      have h0 := HH.out.ca.ok
      have hfl : (l : Int) ≤ lvl c.S N f ∧ (l : Int) ≤ lvl c.S N g := by have := HM.out; omega
      have hcn : (k : Int) < c.S.getD l 0 := by have := HN.out; omega
      obtain ⟨T, hT⟩ := I.out.ext
      have hx1 := kidR_has h0 hl HF.out hfl.1 hcn
      have hx2 := kidR_has h0 hl HG.out hfl.2 hcn
      rw [HX1.out] at hx1
      rw [HX2.out] at hx2
      have hzz : c.Z → x2 = 0 := fun z => by
        have h1 := HX2.out
        rw [HZ.out z, kidR_zero hl] at h1
        exact h1.symm
      have X7 : Hid (Below wr.heap.size wr w7) := by unfold Hid; rw [HNB.out]; exact B7.out.2
      have HPC := hide (HP.out w7 N' P' G' x1 x2 (I.out.ms.below X7.out) (by rw [hT]; exact hasR_app hx1.1) (by rw [hT]; exact hasR_app hx2.1) hzz (by rw [hT, lvl_app hx1.1]; exact hx1.2) (by rw [hT, lvl_app hx2.1]; exact hx2.2))
      have HFL := hide hfl
      have HH0 := hide h0
      have hob3 : Hid (w3.heap.size ≤ ob) := by unfold Hid; rw [HOB.out]; exact Nat.le_refl _
      have cb0 : w7.cell? ⟨nb, 0, none⟩ = _ := cell_of_row w7 nb 0 _ _ _ B7.out.1
      have cb1 : w7.cell? ⟨nb, 1, none⟩ = _ := cell_of_row w7 nb 1 _ _ _ B7.out.1
      simp at cb0 cb1
      clear h0 hfl hcn hT hx1 hx2 hzz
      go_upto_region 12 with (go_at_call 79; refine HPC.out.mono ?_; rintro e w8 ⟨r, er, N2, P2, G2, rfl, m8, e8, k8, p8, g8, in8, ok8⟩; have IN8 := hide in8; have M8 := hide m8; have E8 := hide e8; have K8 := hide k8; have P8 := hide p8; have G8 := hide g8; have OK8 := hide ok8; clear m8 e8 k8 p8 g8 ok8 in8)
      clear HPC cb0 cb1 B7
      rcases OK8.out with ⟨rfl, hok⟩ | ⟨rfl, rfl⟩
      · have NX := hide (fun w9 hw => PkI.next HQ.out HQL.out hl HF.out HG.out HH0.out HFL.out.1 HFL.out.2 HN.out I.out hlt hob3.out X7.out M8.out E8.out K8.out P8.out G8.out (r := r) (by rw [HX1.out, HX2.out]; exact hok) (by rw [HX1.out, HX2.out]; exact IN8.out) (w7 := w9) hw)
        have o8 : RwZ w8 ob (ks ++ List.replicate (n - k) 0) := (I.out.out.below X7.out).kept K8.out (fun hF => hF.elim I.out.np (fun h1 => by
          have ho := I.out.out
          unfold RwZ at ho
          rcases h1 with e | e
          · obtain ⟨es, cl, h1⟩ := I.out.ms.res.blk
            rw [← e, ho] at h1
            cases h1
          · obtain ⟨es, cl, h1⟩ := I.out.ms.kid.blk
            rw [← e, ho] at h1
            cases h1))
        have f8 := o8.fro k
        have q8 := o8.cell (k := k) (by rw [List.length_append, List.length_replicate, I.out.len]; omega)
        clear o8 hok OK8
        go_wp2
        go_roundw
        case rel => exact ⟨k + 1, by omega, by go_num, N2, P2, G2, ks ++ [r], NX.out _ rfl⟩
        case measure => simp [RowKit.intOf]; omega
      · obtain ⟨k9, p9, g9, e9⟩ := I.out.more X7.out E8.out K8.out P8.out G8.out
        obtain ⟨hk0, hgp, hgg⟩ := PkI.frame (w := w) (by rw [HPB.out]; exact X1.out) Q3.out GW3.out k9 p9 g9
        have FIN : Hid (PkL c N P G l f g w (.returned (.tuple #[.slice none 0 0, .int .i64 2])) w8) := ⟨_, _, N2, P2, G2, rfl, M8.out, e9, hk0, hgp, hgg, .inr ⟨rfl, rfl, I.out.failed HQ.out HQL.out hl HF.out HG.out HH0.out HFL.out.1 HFL.out.2 (by have := HN.out; omega) (by rw [HX1.out, HX2.out]; exact IN8.out)⟩⟩
        clear k9 p9 g9 e9 hk0 hgp hgg OK8
        go_wp2
        go_ret2
        exact FIN.out
    · have hlt' : ¬ (k : Int) < n := by omega
      obtain rfl : k = n := by omega
      go_wp2
      go_ret2
      have hs := I.out.out
      rw [Nat.sub_self, List.replicate_zero, List.append_nil] at hs
      have e := I.out.len
      obtain ⟨hk0, hgp, hgg⟩ := PkI.frame (w := w) (by rw [HPB.out]; exact X1.out) Q3.out GW3.out I.out.kp I.out.pp I.out.gg
      exact ⟨_, _, N', P', G', rfl, I.out.ms, I.out.ext, hk0, hgp, hgg, .inl ⟨rfl, ob, ks, k, by rw [e]; rfl, hs.zbk, by rw [e]; exact HN.out, fun i hi => I.out.ok i (by rw [← e]; exact hi), by have h9 := I.out.kf; rwa [List.take_of_length_le (by rw [cuts_length]; have := HN.out; omega)] at h9⟩⟩
end
end Go.Proofs.Ytaafeflbanoncaa
