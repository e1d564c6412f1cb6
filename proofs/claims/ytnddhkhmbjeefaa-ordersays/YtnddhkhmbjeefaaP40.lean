/-
  The orders that Best goes through; what its loop keeps. No condition.
-/
import Derived.Test.YtnddhkhmbjeefaaP38
import Derived.Test.YtnddhkhmbjeefaaP39
import Derived.Test.YtnddhkhmbjeefaaP06
namespace Go.Proofs.Ytnddhkhmbjeefaa
open Go.RowKit Go.Lib Go.Maps

/-- A level put in at its best place. -/
def nxtO (c : List Int → Int) (o : List Int) (v : Int) : List Int := mv (o.erase v) v (bsq c (o.erase v) v (o.idxOf v, c o) (List.range o.length)).1
/-- Level by level. -/
def bsO (c : List Int → Int) (o : List Int) : Nat → List Int
  | 0 => o
  | k + 1 => nxtO c (bsO c o k) (k : Int)
section
variable {c : List Int → Int} {o : List Int} {v : Int} {S : List Int} {F : List Phi} {R : List Int} {most : Int}
theorem mv_perm (E : List Int) (v : Int) (q : Nat) : (mv E v q).Perm (v :: E) := by
  have := (List.perm_middle (a := v) (l₁ := E.take q) (l₂ := E.drop q))
  rwa [List.take_append_drop] at this
theorem mv_back : ∀ {o : List Int}, v ∈ o → mv (o.erase v) v (o.idxOf v) = o
  | [], h => by simp at h
  | a :: o, h => by
    by_cases e : a = v
    · subst e
      simp [mv]
    · have hm : v ∈ o := by simpa [Ne.symm e] using h
      have ih := mv_back hm
      have e1 : (a :: o).erase v = a :: o.erase v := by rw [List.erase_cons_tail (by simpa using e)]
      have e2 : (a :: o).idxOf v = o.idxOf v + 1 := by rw [List.idxOf_cons, show (a == v) = false by simpa using e]; rfl
      rw [e1, e2]
      simp only [mv, List.take_succ_cons, List.drop_succ_cons, List.cons_append] at ih ⊢
      rw [ih]
theorem erase_len (h : v ∈ o) : (o.erase v).length + 1 = o.length := by
  have h1 := List.length_erase_of_mem h
  have h2 := List.length_pos_of_mem h
  omega
theorem idx_le (h : v ∈ o) : o.idxOf v ≤ (o.erase v).length := by
  have h1 := List.idxOf_lt_length_of_mem h
  have h2 := erase_len h
  omega
theorem nxtO_perm (h : v ∈ o) : (nxtO c o v).Perm o := by
  have h1 := mv_perm (o.erase v) v (bsq c (o.erase v) v (o.idxOf v, c o) (List.range o.length)).1
  have h2 := mv_perm (o.erase v) v (o.idxOf v)
  rw [mv_back h] at h2
  exact h1.trans h2.symm
theorem nxtO_le (h : v ∈ o) : c (nxtO c o v) ≤ c o := by
  have h1 := bsq_at (c := c) (E := o.erase v) (v := v) (List.range o.length) (o.idxOf v, c o) (by show c o = _; rw [mv_back h])
  have h2 := bsq_le (c := c) (E := o.erase v) (v := v) (List.range o.length) (o.idxOf v, c o)
  unfold nxtO
  rw [← h1]
  exact h2
theorem bsO_perm {n : Nat} (ho : ∀ k : Nat, k < n → (k : Int) ∈ o) : ∀ k, k ≤ n → (bsO c o k).Perm o
  | 0, _ => List.Perm.refl _
  | k + 1, hk => by
    have ih := bsO_perm ho k (by omega)
    exact (nxtO_perm (ih.mem_iff.2 (ho k (by omega)))).trans ih
theorem bsO_le {n : Nat} (ho : ∀ k : Nat, k < n → (k : Int) ∈ o) : ∀ k, k ≤ n → c (bsO c o k) ≤ c o
  | 0, _ => Int.le_refl _
  | k + 1, hk => by
    have ih := bsO_le ho k (by omega)
    have hp := bsO_perm (c := c) ho k (by omega)
    have := nxtO_le (c := c) (hp.mem_iff.2 (ho k (by omega)))
    show c (nxtO c (bsO c o k) (k : Int)) ≤ _
    omega
/-- One step of Best. -/
theorem best_next (hS : SzOk S) (h0 : 0 ≤ most) (h8 : most ≤ 8192) {d : DX} (G : GD S F R (layL d.Ls)) (e : ordL d.Ls = o) (hv : v ∈ o) {ls : Int} (hls : (if most + 1 < (nodesL (layL d.Ls) : Int) then most + 1 else (nodesL (layL d.Ls) : Int)) = ls) {xs : List DX} (h : SOt S F R (ls - 1) (o.erase v) v (o.idxOf v) xs) :
    ordL (bstF (d, ls) xs).1.Ls = nxtO (cN S F most) o v := by
  have hd : AtQ S F R (o.erase v) v d (o.idxOf v) := ⟨G, by rw [e, mv_back hv]⟩
  have := (best_spec hS h0 h8 hd (idx_le hv) hls h).2
  rw [this, mv_back hv, erase_len hv]
  rfl
theorem chp_lv {N : List Nd} : ∀ {L : List Lay} {l : Nat} {Q Q' : List Int}, ChP S N l Q L Q' → L.map (·.1) = (List.range' l L.length).map fun (i : Nat) => (i : Int)
  | [], _, _, _, _ => rfl
  | y :: T, l, Q, Q', h => by
    obtain ⟨Q1, s, hT⟩ := h
    rw [List.map_cons, chp_lv hT, List.length_cons, List.range'_succ, List.map_cons, s.lv]
end
structure BeI (w wr : World) (dc : Nat) (S : List Int) (F : List Phi) (ra : Option Addr) (rc : Nat) (R : List Int) (o : List Int) (x : DX) : Prop where
  blk : wr.heap[dc]? = some (.cells #[.slice ra R.length rc, .slice (some ⟨x.lb, 0, none⟩) x.Ls.length x.lc] 70 (0, 0))
  px : PxO S F ra R 0 x wr
  od : ordL x.Ls = o
  bel : Below w.heap.size w wr
section
variable {w wr : World} {dc : Nat} {S : List Int} {F : List Phi} {ra : Option Addr} {rc : Nat} {R : List Int} {o o' : List Int} {x x' : DX}
theorem BeI.put {w2 w3 : World} (h : BeI w wr dc S F ra rc R o x) (y : Below wr.heap.size wr w2) (hx : PxO S F ra R 0 x' w2) (ho : ordL x'.Ls = o') (hdc : w.heap.size ≤ dc)
    (e : w3 = (w2.setCell ⟨dc, 0, none⟩ (.slice ra R.length rc)).setCell ⟨dc, 1, none⟩ (.slice (some ⟨x'.lb, 0, none⟩) x'.Ls.length x'.lc)) : BeI w w3 dc S F ra rc R o' x' := by
  have b2 := (y.block _ (lt_of_obj h.blk)).trans h.blk
  have a2 := block_setCell b2 0 (.slice ra R.length rc)
  have r : Rnd (fun z => z = dc) w2 w3 := by
    rw [e]
    exact (Rnd.setCell (Q := fun z => z = dc) (p := ⟨dc, 0, none⟩) rfl (soft70 b2) _).trans (Rnd.setCell (Q := fun z => z = dc) (p := ⟨dc, 1, none⟩) rfl (soft70 (by simpa using a2)) _)
  refine ⟨?_, hx.soft r.any, ho, ?_⟩
  · rw [e]
    have := block_setCell a2 1 (.slice (some ⟨x'.lb, 0, none⟩) x'.Ls.length x'.lc)
    simpa using this
  · have x1 := bt h.bel y (Nat.le_refl _)
    exact x1.trans (r.belowN x1.size (fun b hb => by rw [hb]; exact hdc))
end
end Go.Proofs.Ytnddhkhmbjeefaa
/-
  What is made of a function, reckoned out. In pure words; of no program: no condition.
-/
namespace Go.Proofs.Ytnddhkhmbjeefaa
open Go.RowKit

def mkC (M : Int) (N : List Nd) (lv : Int) (ks : List Int) : Int × Int × List Nd :=
  if ks.all (fun f => f == ks.getD 0 0) then (ks.getD 0 0, 0, N)
  else if N.idxOf (lv, ks) < N.length then ((N.idxOf (lv, ks) : Int) + 2, 0, N)
  else if M ≤ (N.length : Int) then (0, 2, N) else ((N.length : Int) + 2, 0, N ++ [(lv, ks)])
def kidsC (step : List Nd → Phi → Int × Int × List Nd) : List Nd → List Phi → List Int × Int × List Nd
  | N, [] => ([], 0, N)
  | N, φ :: t => match step N φ with
    | (r, e, N1) => if e = 0 then (match kidsC step N1 t with | (rs, e2, N2) => if e2 = 0 then (r :: rs, 0, N2) else ([], e2, N2)) else ([], e, N1)
def insC (S : List Int) (M : Int) : Nat → List Nd → Phi → Int × Int × List Nd
  | 0, N, φ => (if φ (fun _ => 0) then 1 else 0, 0, N)
  | d + 1, N, φ => match kidsC (insC S M d) N (cuts S φ (S.length - (d + 1))) with
    | (ks, e, N1) => if e = 0 then mkC M N1 ((S.length - (d + 1) : Nat) : Int) ks else (0, e, N1)
def mayC (S : List Int) (N : List Nd) (lv : Int) (ks : List Int) : Bool := decide (0 ≤ lv) && decide (lv < (S.length : Int)) && decide ((ks.length : Int) = S.getD lv.toNat 0) && ks.all (fun f => decide (0 ≤ f) && decide (f < (N.length : Int) + 2) && decide (lv < lvl S N f))
section
variable {S : List Int} {M : Int} {N : List Nd} {φ ψ : Phi} {lv : Int} {ks : List Int}
theorem kidsC_eq (step : List Nd → Phi → Int × Int × List Nd) : ∀ (fs : List Phi) (N : List Nd), kidsC step N fs = kidsF step N fs
  | [], _ => rfl
  | φ :: t, N => by
    have ih := kidsC_eq step t (step N φ).2.2
    simp only [kidsC, kidsF, ih]
theorem all_one : ks.all (fun f => f == ks.getD 0 0) = true ↔ One ks := by simp [One]
theorem mkC_P (h : May S N lv ks) : MkP S M N lv ks (mkC M N lv ks).1 (mkC M N lv ks).2.1 (mkC M N lv ks).2.2 := by
  unfold mkC
  by_cases h1 : ks.all (fun f => f == ks.getD 0 0) = true
  · rw [if_pos h1]
    exact .inr (.inl ⟨h, all_one.1 h1, rfl, rfl, rfl⟩)
  · have hn : ¬ One ks := fun ho => h1 (all_one.2 ho)
    rw [if_neg h1]
    by_cases h2 : N.idxOf (lv, ks) < N.length
    · rw [if_pos h2]
      exact .inr (.inr (.inl ⟨h, hn, ⟨_, by rw [List.getElem?_eq_getElem h2, List.getElem_idxOf], rfl⟩, rfl, rfl⟩))
    · have hm : (lv, ks) ∉ N := fun hm => h2 (List.idxOf_lt_length_of_mem hm)
      rw [if_neg h2]
      by_cases h3 : M ≤ (N.length : Int)
      · rw [if_pos h3]
        exact .inr (.inr (.inr (.inl ⟨h, hn, hm, h3, rfl, rfl, rfl⟩)))
      · rw [if_neg h3]
        exact .inr (.inr (.inr (.inr ⟨h, hn, hm, by omega, rfl, rfl, rfl⟩)))
theorem mkC_eq (hn : N.Nodup) (h : May S N lv ks) : mkF S M N lv ks = mkC M N lv ks := mkF_of hn (mkC_P h)
theorem mayC_may (h : mayC S N lv ks = true) : May S N lv ks := by
  simp only [mayC, Bool.and_eq_true, decide_eq_true_eq, List.all_eq_true] at h
  exact ⟨h.1.1.1, h.1.1.2, h.1.2, fun f hf => ⟨⟨(h.2 f hf).1.1, (h.2 f hf).1.2⟩, (h.2 f hf).2⟩⟩
/-- What Make tells, reckoned out. -/
theorem mk_at {f e : Int} {N' : List Nd} (hn : N.Nodup) (hm : mayC S N lv ks = true) (k : MkP S M N lv ks f e N') : f = (mkC M N lv ks).1 ∧ e = (mkC M N lv ks).2.1 ∧ N' = (mkC M N lv ks).2.2 := MkP.one hn k (mkC_P (mayC_may hm))
theorem insC_eq : ∀ (d : Nat), d ≤ S.length → ∀ (N : List Nd), Ok S M N → ∀ φ, Hang S φ (S.length - d) → ins S M N φ = insC S M d N φ := by
  intro d
  induction d with
  | zero =>
    intro _ N h φ hg
    have e : ∀ p, Pnt S p → φ p = φ (fun _ => 0) := fun p hp => hg p _ hp (Pnt.zero h.sz) (fun j h1 h2 => by omega)
    refine ins_rep h (r := if φ (fun _ => 0) then 1 else 0) ?_
    cases hz : φ (fun _ => 0)
    · exact ⟨⟨by simp, by simp; omega⟩, fun p hp => by rw [e p hp, hz, sayR_low (by simp)]; rfl⟩
    · exact ⟨⟨by simp, by simp; omega⟩, fun p hp => by rw [e p hp, hz, sayR_low (by simp)]; rfl⟩
  | succ d ih =>
    intro hd N h φ hg
    have hl : S.length - (d + 1) < S.length := by omega
    have hcut : ∀ ψ ∈ cuts S φ (S.length - (d + 1)), Hang S ψ (S.length - d) := fun ψ hψ => by
      obtain ⟨c, hc, rfl⟩ := cuts_mem hψ
      have := hg.cut hc
      rwa [show S.length - (d + 1) + 1 = S.length - d by omega] at this
    have hk : kidsF (ins S M) N (cuts S φ (S.length - (d + 1))) = kidsF (insC S M d) N (cuts S φ (S.length - (d + 1))) := kids_congr _ _ N h rfl (fun i h1 h2 N' hN' => ⟨ih (by omega) N' hN' _ (hcut _ (List.getElem_mem _)), (ins_out hN' (by omega) (hcut _ (List.getElem_mem _))).ok⟩)
    have ho := kids_out (l := S.length - d) (cuts S φ (S.length - (d + 1))) N h (fun ψ hψ N' hN' => ins_out hN' (by omega) (hcut ψ hψ))
    rw [ins_exp h hl hg, expF]
    rw [hk] at ho ⊢
    simp only [insC, kidsC_eq]
    by_cases he : (kidsF (insC S M d) N (cuts S φ (S.length - (d + 1)))).2.1 = 0
    · rw [if_pos he, if_pos he]
      refine mkC_eq ho.ok.nod ?_
      rcases ho.res with ⟨_, g2, g3⟩ | ⟨g1, _⟩
      · have hsz := h.sz.each _ (show S.getD (S.length - (d + 1)) 0 ∈ S by rw [List.getD_eq_getElem?_getD, List.getElem?_eq_getElem hl]; exact List.getElem_mem _)
        refine ⟨by omega, by omega, ?_, fun f hf => ?_⟩
        · rw [g2, cuts_length, Int.toNat_natCast]
          omega
        · obtain ⟨i, hi, rfl⟩ := List.getElem_of_mem hf
          have h5 := g3 i (by rw [← g2]; exact hi)
          rw [List.getD_eq_getElem?_getD, List.getElem?_eq_getElem hi] at h5
          exact ⟨h5.1.1, by have := h5.2; simp only [Option.getD_some] at this; omega⟩
      · omega
    · rw [if_neg he, if_neg he]
/-- What is made of the roots, reckoned out. -/
def foldC (S : List Int) (M : Int) (F : List Phi) (o : List Int) : List Int × Int × List Nd := kidsC (insC (ledS S o) M o.length) [] (F.map (ledF o))
theorem foldC_eq {F F' : List Phi} {o : List Int} (hS : SzOk S) (ho : IsOrd S o) (h0 : 0 ≤ M) (h8 : M ≤ 8192) (hl : F.length = F'.length) (hg : ∀ φ ∈ F, Hang (ledS S o) (ledF o φ) 0) (ha : ∀ i (h1 : i < F.length) (h2 : i < F'.length), Alike S F[i] F'[i]) : foldF S M F o = foldC S M F' o := by
  have hO := Ok.nil (ledS_ok hS ho) h0 h8
  have hlen : (ledS S o).length = o.length := by simp [ledS]
  unfold foldF foldC
  rw [kidsC_eq]
  refine kids_congr _ _ [] hO (by rw [List.length_map, List.length_map, hl]) (fun i h1 h2 N hN => ?_)
  rw [List.length_map] at h1 h2
  simp only [List.getElem_map]
  have hgi := hg _ (List.getElem_mem h1)
  have hal : Alike (ledS S o) (ledF o F[i]) (ledF o F'[i]) := fun p hp => ha i h1 h2 _ (led_pnt ho hp)
  refine ⟨?_, (ins_out hN (Nat.zero_le _) hgi).ok⟩
  rw [ins_alike hN hgi hal]
  have := insC_eq (S := ledS S o) (M := M) o.length (by omega) N hN (ledF o F'[i]) (by rw [hlen, Nat.sub_self]; exact hgi.alike hal)
  exact this
end
end Go.Proofs.Ytnddhkhmbjeefaa
/-
  The chapter's first example, reckoned out. In pure words; of no program: no condition.
-/
namespace Go.Proofs.Ytnddhkhmbjeefaa
open Go.RowKit

def S4 : List Int := [2, 2, 2, 2]
def Na : List Nd := [(3, [1, 0]), (3, [0, 1]), (2, [2, 0]), (2, [3, 0]), (2, [0, 2]), (2, [0, 3]), (1, [4, 5]), (1, [6, 7]), (0, [8, 9])]
def ψa : Phi := fun p => (p 2 == p 0) && (p 3 == p 1)
theorem pnt4 {p : Nat → Nat} (h : Pnt S4 p) : p 0 < 2 ∧ p 1 < 2 ∧ p 2 < 2 ∧ p 3 < 2 := by
  have h0 := h 0 (by decide)
  have h1 := h 1 (by decide)
  have h2 := h 2 (by decide)
  have h3 := h 3 (by decide)
  simp [S4] at h0 h1 h2 h3
  omega
theorem lt2 {n : Nat} (h : n < 2) : n = 0 ∨ n = 1 := by omega
theorem na_alike : Alike S4 (fun p => sayR Na p 10) ψa := fun p hp => by
  obtain ⟨h0, h1, h2, h3⟩ := pnt4 hp
  rcases lt2 h0 with e0 | e0 <;> rcases lt2 h1 with e1 | e1 <;> rcases lt2 h2 with e2 | e2 <;> rcases lt2 h3 with e3 | e3 <;> simp [sayR, sayN, Na, ψa, e0, e1, e2, e3]
theorem s4_ok : SzOk S4 := ⟨by decide, by decide, by decide⟩
theorem ψa_hang {o : List Int} (ho : IsOrd S4 o) : Hang (ledS S4 o) (ledF o ψa) 0 := fun p p' _ _ hj => by
  have hlen : (ledS S4 o).length = 4 := by rw [ledS_length ho]; rfl
  have key : ∀ j : Nat, j < 4 → ledP o p j = ledP o p' j := fun j hj4 => by
    have hm : (j : Int) ∈ o := ho.mem (by show j < S4.length; exact hj4)
    have h1 := posO_lt hm
    have h2 : o.length = 4 := ho.len
    exact hj _ (Nat.zero_le _) (by omega)
  show ψa (ledP o p) = ψa (ledP o p')
  simp only [ψa, key 0 (by omega), key 1 (by omega), key 2 (by omega), key 3 (by omega)]
theorem na_hang {o : List Int} (ho : IsOrd S4 o) : Hang (ledS S4 o) (ledF o (fun p => sayR Na p 10)) 0 := (ψa_hang ho).alike (fun _ hp => (na_alike _ (led_pnt ho hp)).symm)
theorem na_fold {M : Int} {o : List Int} (ho : IsOrd S4 o) (h0 : 0 ≤ M) (h8 : M ≤ 8192) : foldF S4 M [fun p => sayR Na p 10] o = foldC S4 M [ψa] o :=
  foldC_eq s4_ok ho h0 h8 rfl (fun φ hφ => by rw [List.mem_singleton.1 hφ]; exact na_hang ho) (fun i h1 h2 => by
    have : i = 0 := by simpa using h1
    subst this
    exact na_alike)
def cnC (o : List Int) : Int := match foldC S4 100 [ψa] o with
  | (_, e, N) => if e = 0 then (N.length : Int) else 101
theorem cnC_eq {o : List Int} (ho : IsOrd S4 o) : cN S4 [fun p => sayR Na p 10] 100 o = cnC o := by
  unfold cN cnC
  rw [na_fold ho (by omega) (by omega)]
  rfl
theorem bsq_congr {c c' : List Int → Int} {E : List Int} {v : Int} : ∀ (qs : List Nat) (y : Nat × Int), (∀ q, c (mv E v q) = c' (mv E v q)) → bsq c E v y qs = bsq c' E v y qs
  | [], _, _ => rfl
  | q :: qs, y, h => by
    show bsq c E v (if c (mv E v q) < y.2 then (q, c (mv E v q)) else y) qs = bsq c' E v (if c' (mv E v q) < y.2 then (q, c' (mv E v q)) else y) qs
    rw [h q]
    exact bsq_congr qs _ h
theorem nxtO_congr {c c' : List Int → Int} {o : List Int} {v : Int} (hv : v ∈ o) (h : ∀ o', o'.Perm o → c o' = c' o') : nxtO c o v = nxtO c' o v := by
  unfold nxtO
  rw [h o (List.Perm.refl _), bsq_congr (c := c) (c' := c') _ _ (fun q => h _ (by
    have h2 := mv_perm (o.erase v) v (o.idxOf v)
    rw [mv_back hv] at h2
    exact (mv_perm _ _ q).trans h2.symm))]
theorem bsO_congr {c c' : List Int → Int} {o : List Int} {n : Nat} (ho : ∀ k : Nat, k < n → (k : Int) ∈ o) (h : ∀ o', o'.Perm o → c o' = c' o') : ∀ k, k ≤ n → bsO c o k = bsO c' o k
  | 0, _ => rfl
  | k + 1, hk => by
    have ih := bsO_congr ho h k (by omega)
    have hp := bsO_perm (c := c') ho k (by omega)
    show nxtO c (bsO c o k) _ = nxtO c' (bsO c' o k) _
    rw [ih]
    exact nxtO_congr (hp.mem_iff.2 (ho k (by omega))) (fun o' h1 => h o' (h1.trans hp))
theorem na_low : IsOrd S4 (lows 4) := ⟨by decide, by decide, by decide⟩
theorem na_ord : IsOrd S4 [0, 2, 1, 3] := ⟨by decide, by decide, by decide⟩
theorem na_best0 : bsO cnC (lows 4) 4 = [0, 2, 1, 3] := by decide +kernel
theorem na_best : bsO (cN S4 [fun p => sayR Na p 10] 100) (lows 4) 4 = [0, 2, 1, 3] := by
  rw [bsO_congr (c' := cnC) (n := 4) (fun k hk => by
    have : k = 0 ∨ k = 1 ∨ k = 2 ∨ k = 3 := by omega
    rcases this with rfl | rfl | rfl | rfl <;> decide) (fun o' hp => cnC_eq ⟨hp.nodup_iff.2 na_low.nod, hp.length_eq.trans na_low.len, fun l hl => na_low.rng l (hp.mem_iff.1 hl)⟩) 4 (Nat.le_refl _)]
  exact na_best0
def Nb : List Nd := [(3, [1, 0]), (3, [0, 1]), (2, [2, 3]), (1, [4, 0]), (1, [0, 4]), (0, [5, 6])]
theorem na_six : foldF S4 6 [fun p => sayR Na p 10] [0, 2, 1, 3] = ([7], 0, Nb) := by
  rw [na_fold na_ord (by omega) (by omega)]
  decide +kernel
theorem na_five : (foldF S4 5 [fun p => sayR Na p 10] [0, 2, 1, 3]).2.1 = 2 := by
  rw [na_fold na_ord (by omega) (by omega)]
  decide +kernel
end Go.Proofs.Ytnddhkhmbjeefaa
/-
  An arena and two lists of numbers beside it, of which the second one grows. No condition.
-/
namespace Go.Proofs.Ytnddhkhmbjeefaa
open Go.RowKit Go.Lib Go.Maps

structure ArR (w0 w : World) (a : Nat) (S : List Int) (M : Int) (N : List Nd) (m : Nat) (P : Nat → Prop) (v1 : Value) (L1 : List Int) (v2 : Value) (L2 : List Int) : Prop where
  ca : CA w a S M N m P
  low : ∀ j, P j → w0.heap.size ≤ j
  bel : Below w0.heap.size w0 w
  r1 : w.ownsRow w0.heap.size 3 1 v1 L1.length (zC L1)
  r2 : w.ownsRow w0.heap.size 3 1 v2 L2.length (zC L2)
  n1 : ∀ j, v1.ownBlock = some j → ¬ P j
  n2 : ∀ j, v2.ownBlock = some j → ¬ P j
  n12 : ∀ j, v1.ownBlock = some j → v2.ownBlock ≠ some j
section
variable {w0 w w' : World} {a : Nat} {S : List Int} {M : Int} {N N' : List Nd} {m : Nat} {P P' : Nat → Prop} {v1 v2 : Value} {L1 L2 : List Int}
theorem ArR.below (h : ArR w0 w a S M N m P v1 L1 v2 L2) (y : Below w.heap.size w w') : ArR w0 w' a S M N m P v1 L1 v2 L2 :=
  ⟨h.ca.below y, h.low, bt h.bel y (Nat.le_refl _) |>.mono (Nat.le_refl _), own_below h.r1 y, own_below h.r2 y, h.n1, h.n2, h.n12⟩
theorem own_low {base e size n : Nat} {v : Value} {xs : List Value} (h : w.ownsRow base e size v n xs) {j : Nat} (hj : v.ownBlock = some j) : base ≤ j ∧ j < w.heap.size := by
  rcases h.2 with ⟨e1, _⟩ | ⟨g, cap, cur, e1, hb, hg, _⟩
  · rw [e1] at hj; cases hj
  · rw [e1] at hj
    have hj' : g = j := by simpa [Value.ownBlock] using hj
    subst hj'
    exact ⟨hb, lt_of_block hg⟩
/-- A node is made. -/
theorem ArR.make (h : ArR w0 w a S M N m P v1 L1 v2 L2) {m' : Nat} (hc : CA w' a S M N' m' P') (hk : Kept P w w') (hp : ∀ k, P' k → P k ∨ w.heap.size ≤ k) : ArR w0 w' a S M N' m' P' v1 L1 v2 L2 := by
  refine ⟨hc, fun j hj => ?_, h.bel.trans (hk.below h.bel.size h.low), own_kept h.r1 hk h.n1, own_kept h.r2 hk h.n2, fun j hj hp' => ?_, fun j hj hp' => ?_, h.n12⟩
  · rcases hp j hj with h1 | h1
    · exact h.low j h1
    · exact Nat.le_trans h.bel.size h1
  · rcases hp j hp' with h1 | h1
    · exact h.n1 j hj h1
    · have := (own_low h.r1 hj).2
      omega
  · rcases hp j hp' with h1 | h1
    · exact h.n2 j hj h1
    · have := (own_low h.r2 hj).2
      omega
/-- The second list grows. -/
theorem ArR.push {xW : World} {x : Int} {g cap : Nat} (h : ArR w0 w a S M N m P v1 L1 v2 L2) (y : Below w.heap.size w xW) (O : w'.ownsRow w0.heap.size 3 1 (.slice (some ⟨g, 0, none⟩) (L2.length + 1) cap) (L2.length + 1) (zC L2 ++ [.int .i64 x])) (G : xW.grownBy w' v2.ownBlock) (hg : v2.ownBlock = some g ∨ g = xW.heap.size) :
    ArR w0 w' a S M N m P v1 L1 (.slice (some ⟨g, 0, none⟩) (L2 ++ [x]).length cap) (L2 ++ [x]) := by
  have hx := h.below y
  have k : Kept (fun j => v2.ownBlock = some j) xW w' := (Kept.refl _ xW).grown G (fun _ e => e)
  have hl : (L2 ++ [x]).length = L2.length + 1 := by simp
  have hgn : ∀ j, (Value.slice (some ⟨g, 0, none⟩) (L2 ++ [x]).length cap).ownBlock = some j → j = g := fun j hj => by
    have : g = j := by simpa [Value.ownBlock] using hj
    exact this.symm
  refine ⟨hx.ca.kept k (fun j hj e => hx.n2 j e hj), hx.low, hx.bel.trans (k.below hx.bel.size (fun j hj => (own_low hx.r2 hj).1)), own_kept hx.r1 k (fun j hj e => hx.n12 j hj e), ?_, hx.n1, fun j hj hp => ?_, fun j hj e => ?_⟩
  · rw [hl, show zC (L2 ++ [x]) = zC L2 ++ [.int .i64 x] by simp [zC]]
    exact O
  · have := hgn j hj
    subst this
    rcases hg with e | e
    · exact hx.n2 _ e hp
    · have := hx.ca.plt hp
      omega
  · have := hgn j e
    subst this
    rcases hg with e | e
    · exact hx.n12 _ hj e
    · have := (own_low hx.r1 hj).2
      omega
/-- The grown list is the first one; another one begins. -/
theorem ArR.turn (h : ArR w0 w a S M N m P v1 L1 v2 L2) : ArR w0 w a S M N m P v2 L2 (.slice none 0 0) [] :=
  ⟨h.ca, h.low, h.bel, h.r2, World.ownsRow_nil _ _ _ _, h.n2, fun _ hj => (by cases hj), fun _ _ e => (by cases e)⟩
theorem ArR.drop (h : ArR w0 w a S M N m P v1 L1 v2 L2) : ArR w0 w a S M N m P v1 L1 (.slice none 0 0) [] :=
  ⟨h.ca, h.low, h.bel, h.r1, World.ownsRow_nil _ _ _ _, h.n1, fun _ hj => (by cases hj), fun _ _ e => (by cases e)⟩
end
/-- The nodes of the chapter's first example, one after the other. -/
theorem na_all : ∀ k, k < 9 → mayC S4 (Na.take k) (Na.getD k (0, [])).1 (Na.getD k (0, [])).2 = true ∧ mkC 9 (Na.take k) (Na.getD k (0, [])).1 (Na.getD k (0, [])).2 = ((k : Int) + 2, 0, Na.take (k + 1)) := by decide +kernel
theorem na_make (k : Nat) (hk : k < 9) : MkP S4 9 (Na.take k) (Na.getD k (0, [])).1 (Na.getD k (0, [])).2 ((k : Int) + 2) 0 (Na.take (k + 1)) := by
  obtain ⟨h1, h2⟩ := na_all k hk
  have := mkC_P (M := 9) (mayC_may h1)
  rwa [h2] at this
section
variable {w0 w : World} {a k : Nat} {P : Nat → Prop} {v1 v2 : Value} {L1 L2 : List Int}
/-- Make of the k-th node of the example. -/
theorem ArR.mkNa (h : ArR w0 w a S4 9 (Na.take k) k P v1 L1 v2 L2) (hk : k < 9) {V : World} (y : Below w.heap.size w V) (g c : Nat) {lv : Int} {A : List Int} (e1 : (Na.getD k (0, [])).1 = lv) (e2 : (Na.getD k (0, [])).2 = A) (hz : ZAt V (some ⟨g, 0, none⟩) A) :
    Calls Try.prog 22 #[.pointer (some ⟨a, 0, none⟩), .int .i64 lv, .slice (some ⟨g, 0, none⟩) A.length c] V fun e w' => e = .returned (.tuple #[.int .i64 ((k : Int) + 2), .int .i64 0]) ∧ ∃ P', ArR w0 w' a S4 9 (Na.take (k + 1)) (k + 1) P' v1 L1 v2 L2 := by
  have hk0 := na_make k hk
  rw [e1, e2] at hk0
  have hA : A.length ≤ 2 := by
    rw [← e2]
    have : ∀ j, j < 9 → (Na.getD j (0, [])).2.length ≤ 2 := by decide
    exact this k hk
  refine ((h.below y).ca.make lv _ c A (by omega) hz (by omega)).mono ?_
  rintro e w' ⟨f2, er2, N2, rfl, h2, P', h3, h4, h5, _⟩
  obtain ⟨rfl, rfl, rfl⟩ := MkP.one (h.ca.ok.nod) h2 hk0
  exact ⟨rfl, P', (h.below y).make h3 h4 h5⟩
end
end Go.Proofs.Ytnddhkhmbjeefaa
