/-
  The one form, numbered out of parts: rows of where columns lead, parts met breadth first. Of no program's walk: the conditions are named.
-/
import Derived.Test.YtdgoilkgplnhfaaGreatC05
import Derived.Laws.BytesArg
import Derived.Deep.DeepCutAuto
import Derived.Deep.LoopGhost
set_option maxRecDepth 100000
set_option maxHeartbeats 16000000
namespace Go.Proofs.YtdgoilkgplnhfaaGreat
theorem NumF.self {α : Type} {look : Nat → α} {N M : Nat} {num fst : Nat → Nat} (h : NumF look N num fst M) : NumF num N num fst M :=
 ⟨h.numlt, fun i hi => h.numfst _ (h.numlt i hi), h.fstlt, h.numfst, fun k hk i hi e => h.first k hk i hi ((h.same (by have := h.fstlt k hk; omega) (h.fstlt k hk)).1 e), h.inc⟩
def rowC (D : DF) (f one : Nat → Nat) (m c : Nat) : List Nat := (List.range m).map fun p => f (D.nx (one p) c)
theorem rowC_len (D : DF) (f one : Nat → Nat) (m c : Nat) : (rowC D f one m c).length = m := by simp [rowC]
theorem rowC_get (D : DF) (f one : Nat → Nat) (m c : Nat) {p : Nat} (h : p < m) : gN (rowC D f one m c) p = f (D.nx (one p) c) := by
 rw [gN_lt (by rw [rowC_len]; exact h)]
 simp [rowC]
def quD (D : DF) (one : Nat → Nat) (m : Nat) (R : List (List Nat)) (col : Nat → Nat) : DF := ⟨m, R.length, col, fun p c => gN (R.getD c []) p, fun p => D.ou (one p)⟩
structure QuS (D : DF) (l : List Nat) (f one : Nat → Nat) (m : Nat) (R : List (List Nat)) (col F : Nat → Nat) : Prop where
 rd : RdT D l
 m0 : 0 < m
 lt : ∀ s ∈ l, f s < m
 eqv : ∀ s ∈ l, ∀ t ∈ l, (f s = f t ↔ D.Eqv s t)
 z : f 0 = 0
 on : ∀ p, p < m → one p ∈ l ∧ f (one p) = p
 nf : NumF (fun b => rowC D f one m (D.bc b)) 256 col F R.length
 row : ∀ c, c < R.length → R.getD c [] = rowC D f one m (D.bc (F c))
section
variable {D : DF} {l : List Nat} {f one : Nat → Nat} {m : Nat} {R : List (List Nat)} {col F : Nat → Nat}
theorem QuS.nx (h : QuS D l f one m R col F) {p b : Nat} (hp : p < m) (hb : b < 256) : gN (R.getD (col b) []) p = f (D.step (one p) b) := by
 rw [h.row _ (h.nf.numlt b hb)]
 have : rowC D f one m (D.bc (F (col b))) = rowC D f one m (D.bc b) := h.nf.lk b hb
 rw [this, rowC_get _ _ _ _ _ hp]
 rfl
theorem QuS.step (h : QuS D l f one m R col F) {s b : Nat} (hs : s ∈ l) (hb : b < 256) : (quD D one m R col).step (f s) b = f (D.step s b) := by
 have hp := h.lt s hs
 show gN (R.getD (col b) []) (f s) = _
 rw [h.nx hp hb]
 obtain ⟨h1, h2⟩ := h.on _ hp
 exact (h.eqv _ (h.rd.cl _ h1 b hb) _ (h.rd.cl _ hs b hb)).2 (((h.eqv _ h1 _ hs).1 h2).step hb)
theorem QuS.ok (h : QuS D l f one m R col F) : (quD D one m R col).Ok := by
 refine ⟨h.m0, (h.nf.zero (by decide)).2, fun b hb => h.nf.numlt b hb, fun p hp c hc => ?_⟩
 have hc' : c < R.length := hc
 have hp : p < m := hp
 show gN (R.getD c []) p < m
 rw [h.row c hc', rowC_get _ _ _ _ _ hp]
 exact h.lt _ (h.rd.cl _ (h.on p hp).1 _ (h.nf.fstlt c hc'))
theorem QuS.run (h : QuS D l f one m R col F) : ∀ (t : List Nat) (s : Nat), s ∈ l → Txt t → (quD D one m R col).run (f s) t = f (D.run s t) ∧ D.run s t ∈ l
 | [], s, hs, _ => ⟨rfl, hs⟩
 | b :: t, s, hs, ht => by
   obtain ⟨hb, ht⟩ := ht.tail
   rw [DF.run_cons, DF.run_cons, h.step hs hb]
   exact h.run t _ (h.rd.cl s hs b hb) ht
theorem QuS.lab (h : QuS D l f one m R col F) {s : Nat} (hs : s ∈ l) {t : List Nat} (ht : Txt t) : (quD D one m R col).lab (f s) t = D.lab s t := by
 obtain ⟨h1, h2⟩ := h.run t s hs ht
 unfold DF.lab
 rw [h1]
 obtain ⟨h3, h4⟩ := h.on _ (h.lt _ h2)
 have := (h.eqv _ h3 _ h2).1 h4 [] Txt.nil
 exact this
theorem QuS.dist (h : QuS D l f one m R col F) {p q : Nat} (hp : p < m) (hq : q < m) (e : (quD D one m R col).Eqv p q) : p = q := by
 obtain ⟨h1, h2⟩ := h.on p hp
 obtain ⟨h3, h4⟩ := h.on q hq
 have : D.Eqv (one p) (one q) := fun u hu => by
  have := e u hu
  rw [← h2, ← h4, h.lab h1 hu, h.lab h3 hu] at this
  exact this
 have := (h.eqv _ h1 _ h3).2 this
 rw [h2, h4] at this
 exact this
theorem QuS.cold (h : QuS D l f one m R col F) {c d : Nat} (hc : c < R.length) (hd : d < R.length) (e : ∀ p, p < m → gN (R.getD c []) p = gN (R.getD d []) p) : c = d := by
 have e1 : rowC D f one m (D.bc (F c)) = rowC D f one m (D.bc (F d)) := by
  unfold rowC
  refine List.map_congr_left (fun p hp => ?_)
  have hp := List.mem_range.1 hp
  have := e p hp
  rw [h.row c hc, h.row d hd, rowC_get _ _ _ _ _ hp, rowC_get _ _ _ _ _ hp] at this
  exact this
 have := (h.nf.same (h.nf.fstlt c hc) (h.nf.fstlt d hd)).2 e1
 rw [h.nf.numfst c hc, h.nf.numfst d hd] at this
 exact this
end
theorem QuS.done {D : DF} {l : List Nat} {f one : Nat → Nat} {m : Nat} {R : List (List Nat)} {col fst St X : List Nat} (h : QuS D l f one m R (gN col) (gN fst)) (hf : fst.length = R.length) (rc : RcS (quD D one m R (gN col)) fst St X St.length 0) :
 (rcD (quD D one m R (gN col)) col fst St X).Right ∧ ∀ t, Txt t → (rcD (quD D one m R (gN col)) col fst St X).lab 0 t = D.lab 0 t := by
 have nf : NumF (quD D one m R (gN col)).bc 256 (gN col) (gN fst) fst.length := by rw [hf]; exact h.nf.self
 obtain ⟨hp, hl⟩ := rc.done nf
 have hlen : X.length = St.length * fst.length := by have := rc.len; omega
 have hst : ∀ s, s < St.length → ∀ b, b < 256 → (rcD (quD D one m R (gN col)) col fst St X).step s b < St.length ∧ gN St ((rcD (quD D one m R (gN col)) col fst St X).step s b) = (quD D one m R (gN col)).step (gN St s) b := fun s hs b hb => by
  have hcl := nf.numlt b hb
  have hq : s * fst.length + gN col b < X.length := by rw [hlen]; exact at_lt hs hcl
  obtain ⟨k1, k2⟩ := rc.nxt _ hq
  obtain ⟨e1, e2⟩ := div_at (i := s) hcl
  rw [e1, e2] at k2
  refine ⟨k1, k2.trans ?_⟩
  unfold DF.step
  rw [nf.lk b hb]
 have hrun : ∀ (t : List Nat) (s : Nat), Txt t → s < St.length → (rcD (quD D one m R (gN col)) col fst St X).run s t < St.length ∧ gN St ((rcD (quD D one m R (gN col)) col fst St X).run s t) = (quD D one m R (gN col)).run (gN St s) t := by
  intro t
  induction t with
  | nil => intro s _ hs; exact ⟨hs, rfl⟩
  | cons b t ih =>
    intro s ht hs
    obtain ⟨k1, k2⟩ := hst s hs b ht.tail.1
    rw [DF.run_cons, DF.run_cons, ← k2]
    exact ih _ ht.tail.2 k1
 have hlab : ∀ s, s < St.length → ∀ t, Txt t → (rcD (quD D one m R (gN col)) col fst St X).lab s t = (quD D one m R (gN col)).lab (gN St s) t := fun s hs t ht => by
  unfold DF.lab
  rw [← (hrun t s ht hs).2]
  rfl
 have h0 : ∀ t, Txt t → (quD D one m R (gN col)).lab 0 t = D.lab 0 t := fun t ht => by
  have := h.lab h.rd.z ht
  rw [h.z] at this
  exact this
 refine ⟨⟨hp.toOk, hp.reach, fun s hs t ht e => ?_, fun c hc d hd e => ?_, hp.colf, hp.cols, fun s hs c hc v h1 h2 => ?_⟩, fun t ht => by rw [hl t ht]; exact h0 t ht⟩
 · have hs' : s < St.length := hs
   have ht' : t < St.length := ht
   refine rc.nd s hs' t ht' (h.dist (rc.lt s hs') (rc.lt t ht') (fun u hu => ?_))
   rw [← hlab s hs' u hu, ← hlab t ht' u hu]
   exact e u hu
 · have hc' : c < fst.length := hc
   have hd' : d < fst.length := hd
   refine h.cold (by omega) (by omega) (fun p hp' => ?_)
   obtain ⟨h1, h2⟩ := h.on p hp'
   obtain ⟨t, t1, t2⟩ := h.rd.re _ h1
   obtain ⟨k1, k2⟩ := hrun t 0 t1 rc.s0.1
   have k3 := (h.run t 0 h.rd.z t1).1
   rw [h.z, t2, h2] at k3
   rw [rc.s0.2, k3] at k2
   have key : ∀ c, c < fst.length → gN (R.getD c []) p = gN St ((rcD (quD D one m R (gN col)) col fst St X).nx ((rcD (quD D one m R (gN col)) col fst St X).run 0 t) c) := fun c hc => by
    have hq : (rcD (quD D one m R (gN col)) col fst St X).run 0 t * fst.length + c < X.length := by rw [hlen]; exact at_lt k1 hc
    obtain ⟨j1, j2⟩ := rc.nxt _ hq
    obtain ⟨e1, e2⟩ := div_at (i := (rcD (quD D one m R (gN col)) col fst St X).run 0 t) hc
    rw [e1, e2, k2] at j2
    show _ = gN St (gN X _)
    rw [j2]
    show _ = gN (R.getD (gN col (gN fst c)) []) p
    rw [nf.numfst c hc]
   rw [key c hc', key d hd', e _ k1]
 · obtain ⟨s', c', k0, k1, k2, k3⟩ := hp.stf s hs c hc v h1 h2
   exact ⟨s', c', k1, k2, k3⟩
def gB (B : List Bool) (i : Nat) : Bool := B.getD i false
theorem gB_lt {B : List Bool} {i : Nat} (h : i < B.length) : gB B i = B[i] := by simp [gB, List.getD_eq_getElem?_getD, h]
theorem gB_set {B : List Bool} {i j : Nat} {v : Bool} (h : i < B.length) : gB (B.set i v) j = if j = i then v else gB B j := by
 unfold gB
 simp only [List.getD_eq_getElem?_getD, List.getElem?_set]
 by_cases e : i = j
 · subst e; simp [h]
 · rw [if_neg e, if_neg (fun h => e h.symm)]
theorem gB_false (n i : Nat) : gB (List.replicate n false) i = false := by
 unfold gB
 by_cases h : i < n
 · simp [List.getD_eq_getElem?_getD, h]
 · rw [List.getD_eq_getElem?_getD, List.getElem?_eq_none (by simp; omega)]
   rfl
theorem gN_zero (n i : Nat) : gN (List.replicate n 0) i = 0 := by
 unfold gN
 by_cases h : i < n
 · simp [List.getD_eq_getElem?_getD, h]
 · rw [List.getD_eq_getElem?_getD, List.getElem?_eq_none (by simp; omega)]
   rfl
structure ClT (bc : Nat → Nat) (b : Nat) (B : List Bool) (L : List Nat) : Prop where
 bl : B.length = 256
 fl : ∀ c, c < 256 → (gB B c = true ↔ c ∈ L)
 al : ∀ b', b' < b → bc b' ∈ L
 of : ∀ c ∈ L, ∃ b', b' < b ∧ bc b' = c
 len : L.length ≤ b
section
variable {bc : Nat → Nat} {b : Nat} {B : List Bool} {L : List Nat}
theorem ClT.start : ClT bc 0 (List.replicate 256 false) [] := ⟨List.length_replicate, fun c _ => by rw [gB_false]; simp, fun b' h => by omega, fun c h => (by cases h), Nat.le_refl _⟩
theorem ClT.old (h : ClT bc b B L) (hc : bc b < 256) (hB : gB B (bc b) = true) : ClT bc (b + 1) B L := by
 have hm := (h.fl _ hc).1 hB
 refine ⟨h.bl, h.fl, fun b' hb => ?_, fun c h1 => ?_, by have := h.len; omega⟩
 · rcases Nat.lt_or_ge b' b with h1 | h1
   · exact h.al b' h1
   · rw [show b' = b by omega]; exact hm
 · obtain ⟨b', h2, h3⟩ := h.of c h1
   exact ⟨b', by omega, h3⟩
theorem ClT.new (h : ClT bc b B L) (hc : bc b < 256) : ClT bc (b + 1) (B.set (bc b) true) (L ++ [bc b]) := by
 have hbl := h.bl
 refine ⟨by rw [List.length_set]; exact hbl, fun c hc' => ?_, fun b' hb => ?_, fun c h1 => ?_, by have := h.len; simp; omega⟩
 · rw [gB_set (by omega)]
   by_cases e : c = bc b
   · rw [if_pos e]; simp [e]
   · rw [if_neg e, h.fl c hc']; simp [e]
 · rcases Nat.lt_or_ge b' b with h1 | h1
   · exact List.mem_append_left _ (h.al b' h1)
   · rw [show b' = b by omega]; simp
 · rcases List.mem_append.1 h1 with h1 | h1
   · obtain ⟨b', h2, h3⟩ := h.of c h1
     exact ⟨b', by omega, h3⟩
   · exact ⟨b, by omega, (List.mem_singleton.1 h1).symm⟩
end
structure RhS (D : DF) (C : List Nat) (B : List Bool) (l : List Nat) (i k : Nat) : Prop where
 bl : B.length = D.n
 nd : ∀ a, a < l.length → ∀ b, b < l.length → gN l a = gN l b → a = b
 lt : ∀ s ∈ l, s < D.n
 fl : ∀ s, s < D.n → (gB B s = true ↔ s ∈ l)
 z : 0 < l.length ∧ gN l 0 = 0
 re : ∀ s ∈ l, ∃ t, Txt t ∧ D.run 0 t = s
 dn : ∀ a, a < i → ∀ c ∈ C, D.nx (gN l a) c ∈ l
 dk : ∀ j, j < k → D.nx (gN l i) (gN C j) ∈ l
section
variable {D : DF} {C l : List Nat} {B : List Bool} {i k : Nat}
theorem gN_mem {l : List Nat} {i : Nat} (h : i < l.length) : gN l i ∈ l := by rw [gN_lt h]; exact List.getElem_mem h
theorem RhS.start (hn : 0 < D.n) : RhS D C ((List.replicate D.n false).set 0 true) [0] 0 0 := by
 refine ⟨by simp, fun _ ha _ hb _ => by simp at ha hb; omega, fun s hs => ?_, fun s hs => ?_, ⟨by simp, rfl⟩, fun s hs => ⟨[], Txt.nil, (List.mem_singleton.1 hs).symm⟩, fun _ ha => by omega, fun j hj => by omega⟩
 · rw [List.mem_singleton.1 hs]; exact hn
 · rw [gB_set (by simp; exact hn)]
   by_cases e : s = 0
   · rw [if_pos e]; simp [e]
   · rw [if_neg e, gB_false]; simp [e]
theorem RhS.few (h : RhS D C B l i k) : l.length ≤ D.n := pigeon D.n l.length (gN l) (fun _ ha => h.lt _ (gN_mem ha)) h.nd
theorem RhS.old (h : RhS D C B l i k) (hx : D.nx (gN l i) (gN C k) < D.n) (hB : gB B (D.nx (gN l i) (gN C k)) = true) : RhS D C B l i (k + 1) := by
 refine ⟨h.bl, h.nd, h.lt, h.fl, h.z, h.re, h.dn, fun j hj => ?_⟩
 rcases Nat.lt_or_ge j k with h1 | h1
 · exact h.dk j h1
 · rw [show j = k by omega]; exact (h.fl _ hx).1 hB
theorem RhS.new (h : RhS D C B l i k) (hi : i < l.length) (hC : ∃ b, b < 256 ∧ D.bc b = gN C k) (hx : D.nx (gN l i) (gN C k) < D.n) (hB : gB B (D.nx (gN l i) (gN C k)) = false) : RhS D C (B.set (D.nx (gN l i) (gN C k)) true) (l ++ [D.nx (gN l i) (gN C k)]) i (k + 1) := by
 obtain ⟨b, hb, eb⟩ := hC
 have hni : ¬ D.nx (gN l i) (gN C k) ∈ l := fun hm => by rw [(h.fl _ hx).2 hm] at hB; cases hB
 have hbl := h.bl
 obtain ⟨t, t1, t2⟩ := h.re _ (gN_mem hi)
 have hz := h.z
 have gi : gN (l ++ [D.nx (gN l i) (gN C k)]) i = gN l i := gN_left hi
 generalize hX : D.nx (gN l i) (gN C k) = x at *
 refine ⟨by rw [List.length_set]; exact hbl, fun a ha c hc e => ?_, fun s hs => ?_, fun s hs => ?_, ⟨by simp, by rw [gN_left hz.1]; exact hz.2⟩, fun s hs => ?_, fun a ha c hc => ?_, fun j hj => ?_⟩
 · have mem : ∀ a, a < l.length → ¬ gN l a = x := fun a ha e => hni (by rw [← e]; exact gN_mem ha)
   simp only [List.length_append, List.length_singleton] at ha hc
   by_cases h1 : a < l.length
   · by_cases h2 : c < l.length
     · rw [gN_left h1, gN_left h2] at e; exact h.nd a h1 c h2 e
     · rw [gN_left h1, show c = l.length by omega, gN_last] at e; exact absurd e (mem a h1)
   · by_cases h2 : c < l.length
     · rw [gN_left h2, show a = l.length by omega, gN_last] at e; exact absurd e.symm (mem c h2)
     · omega
 · rcases List.mem_append.1 hs with hs | hs
   · exact h.lt s hs
   · rw [List.mem_singleton.1 hs]; exact hx
 · rw [gB_set (by omega)]
   by_cases e : s = x
   · rw [if_pos e]; simp [e]
   · rw [if_neg e, h.fl s hs]; simp [e]
 · rcases List.mem_append.1 hs with hs | hs
   · exact h.re s hs
   · rw [List.mem_singleton.1 hs]
     refine ⟨t ++ [b], t1.snoc hb, ?_⟩
     rw [DF.run_snoc, t2]
     unfold DF.step
     rw [eb]; exact hX
 · have hai : a < l.length := by omega
   rw [gN_left hai]
   exact List.mem_append_left _ (h.dn a ha c hc)
 · rw [gi]
   rcases Nat.lt_or_ge j k with h1 | h1
   · exact List.mem_append_left _ (h.dk j h1)
   · rw [show j = k by omega, hX]; simp
theorem RhS.row (h : RhS D C B l i C.length) : RhS D C B l (i + 1) 0 := by
 refine ⟨h.bl, h.nd, h.lt, h.fl, h.z, h.re, fun a ha c hc => ?_, fun j hj => by omega⟩
 rcases Nat.lt_or_ge a i with h1 | h1
 · exact h.dn a h1 c hc
 · rw [show a = i by omega]
   obtain ⟨j, h2, h3⟩ := mem_gN hc
   rw [← h3]; exact h.dk j h2
theorem RhS.done (h : RhS D C B l l.length 0) (hC : ∀ b, b < 256 → D.bc b ∈ C) : RdT D l := by
 refine ⟨h.lt, by rw [← h.z.2]; exact gN_mem h.z.1, fun s hs b hb => ?_, h.re⟩
 obtain ⟨a, h1, h2⟩ := mem_gN hs
 rw [← h2]
 exact h.dn a h1 _ (hC b hb)
end
structure UnS (D : DF) (l C : List Nat) (k : Nat) (U : List Nat) : Prop where
 mem : ∀ c ∈ U, c ∈ C
 rep : ∀ j, j < k → ∃ i, i < U.length ∧ ∀ s ∈ l, D.nx s (gN C j) = D.nx s (gN U i)
 len : U.length ≤ k
section
variable {D : DF} {l C U : List Nat} {k : Nat}
theorem UnS.start : UnS D l C 0 [] := ⟨fun c h => (by cases h), fun j hj => by omega, Nat.le_refl _⟩
theorem UnS.old (h : UnS D l C k U) {i : Nat} (hi : i < U.length) (he : ∀ s ∈ l, D.nx s (gN C k) = D.nx s (gN U i)) : UnS D l C (k + 1) U := by
 refine ⟨h.mem, fun j hj => ?_, by have := h.len; omega⟩
 rcases Nat.lt_or_ge j k with h1 | h1
 · exact h.rep j h1
 · rw [show j = k by omega]; exact ⟨i, hi, he⟩
theorem UnS.new (h : UnS D l C k U) (hk : k < C.length) : UnS D l C (k + 1) (U ++ [gN C k]) := by
 refine ⟨fun c hc => ?_, fun j hj => ?_, by have := h.len; simp; omega⟩
 · rcases List.mem_append.1 hc with hc | hc
   · exact h.mem c hc
   · rw [List.mem_singleton.1 hc]; exact gN_mem hk
 · rcases Nat.lt_or_ge j k with h1 | h1
   · obtain ⟨i, h2, h3⟩ := h.rep j h1
     exact ⟨i, by simp; omega, fun s hs => by rw [gN_left h2]; exact h3 s hs⟩
   · rw [show j = k by omega]
     exact ⟨U.length, by simp, fun s _ => by rw [gN_last]⟩
theorem UnS.done (h : UnS D l C C.length U) (hC : ∀ b, b < 256 → D.bc b ∈ C) : ∀ b, b < 256 → ∃ j, j < U.length ∧ ∀ s ∈ l, D.nx s (D.bc b) = D.nx s (gN U j) := fun b hb => by
 obtain ⟨j, h1, h2⟩ := mem_gN (hC b hb)
 obtain ⟨i, h3, h4⟩ := h.rep j h1
 exact ⟨i, h3, fun s hs => by rw [← h2]; exact h4 s hs⟩
end
end Go.Proofs.YtdgoilkgplnhfaaGreat
namespace Go.Proofs.YtdgoilkgplnhfaaGreat
open Go.RowKit Go.Lib
def Lab (l : Int) : Prop := 0 ≤ l ∧ l ≤ 65535
instance (l : Int) : Decidable (Lab l) := inferInstanceAs (Decidable (0 ≤ l ∧ l ≤ 65535))
theorem isLabel_any (l : Int) (w : World) : Calls Tryz.prog 64 #[.int .i64 l] w fun e w' => e = .returned (.bool (decide (Lab l))) ∧ w' = w := by
 by_cases h1 : 0 ≤ l
 · by_cases h2 : l ≤ 65535
   · have HE : Hid (decide (Lab l) = true) := decide_eq_true ⟨h1, h2⟩
     go_enter Tryz.func64, Tryz.ntmps64
     go_wp2
     go_ret
     exact ⟨by rw [HE.out]; first | rfl | simp_all, rfl⟩
   · have HE : Hid (decide (Lab l) = false) := decide_eq_false (fun h => h2 h.2)
     go_enter Tryz.func64, Tryz.ntmps64
     go_wp2
     go_ret
     exact ⟨by rw [HE.out]; first | rfl | simp_all, rfl⟩
 · have HE : Hid (decide (Lab l) = false) := decide_eq_false (fun h => h1 h.1)
   go_enter Tryz.func64, Tryz.ntmps64
   go_wp2
   go_ret
   exact ⟨by rw [HE.out]; first | rfl | simp_all, rfl⟩
def uCells (L : List Nat) : List Value := L.map fun (n : Nat) => Value.int .u8 (n : Int)
def OwnU (w : World) (base : Nat) (v : Value) (L : List Nat) : Prop := w.ownsRow base 5 1 v L.length (uCells L)
theorem Tryz.info5n : (Tryz.prog.info? 5).map (fun i => (i.zero, i.size, i.bytes)) = some (some (.int .u8 0), 1, 1) := by kernel_rfl
theorem made_bytes (n : Nat) : (madeCells (Value.int .u8 0).cells (n * 1)).toList = uCells (List.replicate n 0) := by
 unfold uCells
 simp only [madeCells, Value.cells, List.map_replicate, Nat.mul_one]
 rw [List.eq_replicate_iff]
 refine ⟨by simp, fun b hb => ?_⟩
 simp only [Array.toList_map, List.mem_map] at hb
 obtain ⟨x, _, rfl⟩ := hb
 simp [Nat.mod_one]
theorem OwnU.slot {w : World} {base g n : Nat} {L : List Nat} (h : OwnU w base (.slice (some ⟨g, 0, none⟩) n n) L) {i : Nat} (hi : i < L.length) : n = L.length ∧ w.cell? ⟨g, i, none⟩ = some (.int .u8 (L[i] : Int)) ∧ w.frozen? ⟨g, i, none⟩ = false := by
 have hh : w.ownsRow base 5 1 (.slice (some ⟨g, 0, none⟩) n n) L.length (uCells L) := h
 have hn : n = L.length := by
  rcases hh.2 with ⟨e, e2⟩ | ⟨g', c', cur, e, _⟩
  · cases e
  · injection e with _ e2 _
 subst hn
 exact ⟨rfl, by rw [hh.cellAt i (by omega)]; simp [uCells, hi], hh.frozenAt _⟩
theorem OwnU.store {w : World} {base g n : Nat} {L : List Nat} (h : OwnU w base (.slice (some ⟨g, 0, none⟩) n n) L) (hn : n = L.length) (i x : Nat) : OwnU (w.setCell ⟨g, i, none⟩ (.int .u8 (x : Int))) base (.slice (some ⟨g, 0, none⟩) n n) (L.set i x) ∧ Kept (fun k => k = g) w (w.setCell ⟨g, i, none⟩ (.int .u8 (x : Int))) := by
 subst hn
 have hh : w.ownsRow base 5 1 (.slice (some ⟨g, 0, none⟩) L.length L.length) L.length (uCells L) := h
 obtain ⟨h1, h2⟩ := hh.stored i (.int .u8 (x : Int))
 refine ⟨?_, (kept_of_grown h2).mono (fun k hk => by injection hk with hk; exact hk.symm)⟩
 unfold OwnU
 rw [List.length_set, show uCells (L.set i x) = (uCells L).set i (.int .u8 (x : Int)) by simp [uCells, List.map_set]]
 exact h1
def btOf (L : List Nat) : By := L.map UInt8.ofNat
theorem byteColumns_any (ao : Option Addr) (cap : Nat) (L : List Nat) (w : World) (hl : L.length ≤ 4294967296) (h256 : ∀ x ∈ L, x < 256) (hat : NAt w ao L) :
 Calls Tryz.prog 48 #[.slice ao L.length cap] w fun e w' => e = .returned (.string ⟨(btOf L).toArray⟩) ∧ Below w.heap.size w w' := by
 obtain ⟨i5, hi5, hz50, hz51, hz52⟩ := info_parts Tryz.info5n
 have HAT := hide hat
 have HX := hide h256
 clear hat h256
 go_enter Tryz.func48, Tryz.ntmps48
 go_wp2_with (at_make; refine wpList_make_full _ rfl (.tmp 7) (.tmp 7) 89 rfl w.heap.size 5 i5 (.int .u8 0) 1 Tryz.underlying89 hi5 hz50 hz51 .i64 .i64 _ _ L.length rfl rfl rfl rfl (by rw [hz52]; omega) (by unfold maxLen; omega) (Nat.le_refl _) ?_; intro w2 h1 h2; have X2 := hide (below_of_grown h2); have O2 : Hid (OwnU w2 w.heap.size (.slice (some ⟨w.heap.size, 0, none⟩) L.length L.length) (L.take 0 ++ List.replicate (L.length - 0) 0)) := (by unfold Hid OwnU; rw [made_bytes] at h1; simpa using h1); clear h1 h2)
 go_loopg [11] (L.length + 1) (fun g x wr => ∃ i : Nat, x = .int .i64 i ∧ i ≤ L.length ∧ Hid (OwnU wr w.heap.size (.slice (some ⟨w.heap.size, 0, none⟩) L.length L.length) (L.take i ++ List.replicate (L.length - i) 0)) ∧ Hid (Below w.heap.size w wr) ∧ L.length - i < g)
 case atStart => exact ⟨0, rfl, by omega, O2, X2, by omega⟩
 case round =>
  obtain ⟨i, rfl, hi1, O, XB, hg⟩ := hrel
  have HG := hide hg
  clear hg O2 X2
  by_cases hi : i < L.length
  · have hi' : (i : Int) < (L.length : Int) := by omega
    obtain ⟨b, off, rfl, hb, c0⟩ := (HAT.out.below XB.out).get hi
    have hx := HX.out L[i] (List.getElem_mem hi)
    have hll : (L.take i ++ List.replicate (L.length - i) 0).length = L.length := by simp; omega
    obtain ⟨u1, q1, q2⟩ : ∃ u, wr.cell? ⟨w.heap.size, i, none⟩ = some u ∧ wr.frozen? ⟨w.heap.size, i, none⟩ = false := by obtain ⟨_, q1, q2⟩ := O.out.slot (i := i) (by omega); exact ⟨_, q1, q2⟩
    obtain ⟨o3, k3⟩ := O.out.store hll.symm i L[i]
    have e3 : (L.take i ++ List.replicate (L.length - i) 0).set i L[i] = L.take (i + 1) ++ List.replicate (L.length - (i + 1)) 0 := by
     rw [List.set_append_right _ _ (by simp; omega), List.take_succ_eq_append_getElem hi, List.append_assoc]
     congr 1
     obtain ⟨m, hm⟩ : ∃ m, L.length - i = m + 1 := ⟨L.length - i - 1, by omega⟩
     rw [hm, show L.length - (i + 1) = m by omega, show i - (L.take i).length = 0 by simp; omega]
     rfl
    rw [e3] at o3
    have O3 := hide o3
    have X3 := hide (XB.out.trans (k3.below XB.out.size (fun k hk => by omega)))
    have f1 : IntKind.u8.wrap ((L[i] : Nat) : Int) = ((L[i] : Nat) : Int) := by simp [IntKind.wrap, IntKind.bits, IntKind.signed]; omega
    generalize L[i] = y at *
    clear o3 k3 e3 hll
    go_wp2
    go_roundg (L.length - (i + 1) + 1)
    case measure => have := HG.out; omega
    case rel => exact ⟨i + 1, by first | rfl | go_num | (congr 1; omega), by omega, O3, X3, by omega⟩
  · have hi' : ¬ (i : Int) < (L.length : Int) := by omega
    obtain rfl : i = L.length := by omega
    have o4 : OwnU wr w.heap.size (.slice (some ⟨w.heap.size, 0, none⟩) L.length L.length) L := by have := O.out; rwa [Nat.sub_self, List.replicate_zero, List.append_nil, List.take_length] at this
    have hcv : (convert 89 9 (.slice (some ⟨w.heap.size, 0, none⟩) L.length L.length)).run Tryz.prog wr = .ok (.string (strOfNums (L.map fun b : Nat => (b : Int)))) wr := by
     refine run_convert_bytes_arg wr 89 5 Tryz.underlying89 Tryz.underlying5 w.heap.size 0 L.length L.length (L.map fun b : Nat => (b : Int)) (by simp) (fun i hi => ?_) 9 Tryz.underlying9
     rw [Nat.zero_add, (o4.slot hi).2.1]
     simp [List.getD_eq_getElem?_getD, hi]
    have HE : Hid (strOfNums (L.map fun b : Nat => (b : Int)) = ⟨(btOf L).toArray⟩) := by
     unfold Hid strOfNums btOf
     rw [List.map_map]
     rfl
    rw [HE.out] at hcv
    clear o4
    go_wp2
    go_ret
    exact ⟨rfl, XB.out⟩
def ZAt (w : World) (ao : Option Addr) (L : List Int) : Prop := L = [] ∨ ∃ b off, ao = some ⟨b, off, none⟩ ∧ b < w.heap.size ∧ ∀ i (h : i < L.length), w.cell? ⟨b, off + i, none⟩ = some (.int .i64 L[i])
theorem ZAt.below {w w' : World} {ao : Option Addr} {L : List Int} (h : ZAt w ao L) (hb : Below w.heap.size w w') : ZAt w' ao L := by
 rcases h with h | ⟨b, off, h1, h2, h3⟩
 · exact .inl h
 · exact .inr ⟨b, off, h1, Nat.lt_of_lt_of_le h2 hb.size, fun i hi => (hb.cell (p := ⟨b, off + i, none⟩) h2).trans (h3 i hi)⟩
theorem ZAt.get {w : World} {ao : Option Addr} {L : List Int} (h : ZAt w ao L) {i : Nat} (hi : i < L.length) : ∃ b off, ao = some ⟨b, off, none⟩ ∧ w.cell? ⟨b, off + i, none⟩ = some (.int .i64 L[i]) := by
 rcases h with h | ⟨b, off, h1, h2, h3⟩
 · rw [h] at hi; cases hi
 · exact ⟨b, off, h1, h3 i hi⟩
theorem indexZ_any (fv : Value) (cl : Nat) (caps : List Value) (hfv : fv = .func (.func cl) #[] caps.toArray) (he : ∀ args w, (callFunc cl args).run Tryz.prog w = .ok (.enter cl args) w) (p : Int → Bool) (ao : Option Addr) (cap : Nat) (L : List Int) (w : World) (hl : L.length ≤ 140737488351232) (hat : ZAt w ao L) (hc : ∀ z ∈ L, ∀ W, Below w.heap.size w W → Calls Tryz.prog cl (.int .i64 z :: caps).toArray W fun e w' => e = .returned (.bool (p z)) ∧ Below W.heap.size W w') :
 Calls Tryz.prog 110 #[.slice ao L.length cap, fv] w fun e w' => (∃ i : Int, e = .returned (.int .i64 i) ∧ (0 ≤ i ↔ ∃ x, x ∈ L ∧ p x = true) ∧ -1 ≤ i) ∧ Below w.heap.size w w' := by
 subst hfv
 have HAT := hide hat
 have HC := hide hc
 clear hat hc
 go_enter Tryz.func110, Tryz.ntmps110
 go_wp2
 go_loopg [8] (L.length + 1) (fun g x wr => ∃ k : Nat, x = .int .i64 (k : Nat) ∧ k ≤ L.length ∧ Hid ((L.take k).any p = false) ∧ Hid (Below w.heap.size w wr) ∧ L.length - k < g)
 case atStart => exact ⟨0, rfl, by omega, by simp [Hid], hide (Below.refl _ _), by omega⟩
 case round =>
  obtain ⟨k, rfl, hk1, HA, XB, hg⟩ := hrel
  have HG := hide hg
  clear hg
  by_cases hk : k < L.length
  · have hk' : (k : Int) < (L.length : Int) := by omega
    obtain ⟨b, off, rfl, c0⟩ := (HAT.out.below XB.out).get hk
    obtain ⟨z, hz⟩ : ∃ z, L[k] = z := ⟨_, rfl⟩
    have H1 := hide (HC.out L[k] (List.getElem_mem hk) wr XB.out)
    have HZ : Hid ((L.take (k + 1)).any p = p z) := by unfold Hid; rw [List.take_succ_eq_append_getElem hk, List.any_append, HA.out, hz]; simp
    have HZ2 : Hid (z ∈ L) := by unfold Hid; rw [← hz]; exact List.getElem_mem hk
    rw [hz] at c0 H1
    clear hz
    go_wp2_with (fail)
    refine H1.out.mono ?_
    rintro e w3 ⟨rfl, x3⟩
    have X3 := hide (bt XB.out x3 (Nat.le_refl _))
    clear H1 x3 c0
    cases hp : p z with
    | true =>
      have HP := hide hp
      go_wp2
      go_ret
      exact ⟨⟨_, rfl, ⟨fun _ => ⟨z, HZ2.out, HP.out⟩, fun _ => by omega⟩, by omega⟩, X3.out⟩
    | false =>
      have HZ3 : Hid ((L.take (k + 1)).any p = false) := HZ.out.trans hp
      go_wp2
      go_roundg (L.length - (k + 1) + 1)
      case measure => have := HG.out; omega
      case rel => exact ⟨k + 1, by first | rfl | go_num | (congr 1; omega), by omega, HZ3, X3, by omega⟩
  · have hk' : ¬ (k : Int) < (L.length : Int) := by omega
    obtain rfl : k = L.length := by omega
    have HE : Hid (L.any p = false) := by have := HA.out; rwa [List.take_length] at this
    go_wp2
    go_ret
    exact ⟨⟨-1, rfl, ⟨fun h => by omega, fun h => by obtain ⟨x, h1, h2⟩ := h; have h3 := List.any_eq_true.2 ⟨x, h1, h2⟩; rw [HE.out] at h3; cases h3⟩, by omega⟩, XB.out⟩
theorem containsZ_any (fv : Value) (cl : Nat) (caps : List Value) (hfv : fv = .func (.func cl) #[] caps.toArray) (he : ∀ args w, (callFunc cl args).run Tryz.prog w = .ok (.enter cl args) w) (p : Int → Bool) (ao : Option Addr) (cap : Nat) (L : List Int) (w : World) (hl : L.length ≤ 140737488351232) (hat : ZAt w ao L) (hc : ∀ z ∈ L, ∀ W, Below w.heap.size w W → Calls Tryz.prog cl (.int .i64 z :: caps).toArray W fun e w' => e = .returned (.bool (p z)) ∧ Below W.heap.size W w') :
 Calls Tryz.prog 76 #[.slice ao L.length cap, fv] w fun e w' => e = .returned (.bool (L.any p)) ∧ Below w.heap.size w w' := by
 have H1 := hide (indexZ_any fv cl caps hfv he p ao cap L w hl hat hc)
 clear hc hat hfv he
 go_enter Tryz.func76, Tryz.ntmps76
 go_wp2_with (fail)
 refine H1.out.mono ?_
 rintro e w2 ⟨⟨i, rfl, hi, _⟩, x2⟩
 have X2 := hide x2
 clear H1 x2
 by_cases h0 : 0 ≤ i
 · have HE : Hid (L.any p = true) := List.any_eq_true.2 (hi.1 h0)
   clear hi
   go_wp2
   go_ret
   exact ⟨by rw [HE.out]; first | rfl | simp_all, X2.out⟩
 · have HE : Hid (L.any p = false) := by
    unfold Hid
    cases hx : L.any p with
    | false => rfl
    | true => exact absurd (hi.2 (List.any_eq_true.1 hx)) h0
   clear hi
   go_wp2
   go_ret
   exact ⟨by rw [HE.out]; first | rfl | simp_all, X2.out⟩
def noneB (n : Nat) (z : Int) : Bool := decide (z < 0 ∨ (n : Int) ≤ z)
theorem mayBe1_any (oa : Option Addr) (n oc xb : Nat) (z : Int) (w : World) (hc : w.cell? ⟨xb, 2, none⟩ = some (.slice oa n oc)) :
 Calls Tryz.prog 74 #[.int .i64 z, .pointer (some ⟨xb, 0, none⟩)] w fun e w' => e = .returned (.bool (noneB n z)) ∧ Below w.heap.size w w' := by
 by_cases h1 : z < 0
 · have HE : Hid (noneB n z = true) := decide_eq_true (.inl h1)
   go_enter Tryz.func74, Tryz.ntmps74
   go_wp2
   go_ret
   exact ⟨by rw [HE.out]; first | rfl | simp_all, Below.refl _ _⟩
 · by_cases h2 : (n : Int) ≤ z
   · have HE : Hid (noneB n z = true) := decide_eq_true (.inr h2)
     go_enter Tryz.func74, Tryz.ntmps74
     go_wp2
     go_ret
     exact ⟨by rw [HE.out]; first | rfl | simp_all, Below.refl _ _⟩
   · have HE : Hid (noneB n z = false) := decide_eq_false (fun h => by omega)
     go_enter Tryz.func74, Tryz.ntmps74
     go_wp2
     go_ret
     exact ⟨by rw [HE.out]; first | rfl | simp_all, Below.refl _ _⟩
def nlB (z : Int) : Bool := !decide (Lab z)
theorem mayBe2_any (z : Int) (w : World) : Calls Tryz.prog 75 #[.int .i64 z] w fun e w' => e = .returned (.bool (nlB z)) ∧ Below w.heap.size w w' := by
 have H1 := hide (isLabel_any z w)
 have HE : Hid (nlB z = !decide (Lab z)) := rfl
 generalize decide (Lab z) = b at *
 generalize nlB z = c at *
 go_enter Tryz.func75, Tryz.ntmps75
 go_wp2_with (fail)
 refine H1.out.mono ?_
 rintro e w2 ⟨rfl, hw⟩
 have hw := hw.symm
 subst hw
 go_wp2
 go_ret
 exact ⟨by rw [HE.out]; rfl, Below.refl _ _⟩
def mxL (L : List Nat) : Nat := L.foldl max 0
theorem mxL_snoc (L : List Nat) (x : Nat) : mxL (L ++ [x]) = max (mxL L) x := by simp [mxL, List.foldl_append]
theorem max_any (xb cap : Nat) (L : List Nat) (w : World) (h0 : 0 < L.length) (hl : L.length ≤ 140737488351232) (hc : ∀ i (h : i < L.length), w.cell? ⟨xb, i, none⟩ = some (.int .u8 (L[i] : Int))) :
 Calls Tryz.prog 73 #[.slice (some ⟨xb, 0, none⟩) L.length cap] w fun e w' => e = .returned (.int .u8 ((mxL L : Nat) : Int)) ∧ w' = w := by
 have c0 := hc 0 h0
 have HC := hide hc
 have h0' : (0 : Int) < (L.length : Int) := by omega
 have h1' : ¬ (L.length : Int) < 1 := by omega
 have HM0 : Hid (mxL (L.take 1) = L[0]) := by
  unfold Hid
  rw [List.take_succ_eq_append_getElem h0, List.take_zero, List.nil_append]
  simp [mxL]
 clear hc
 go_enter Tryz.func73, Tryz.ntmps73
 go_wp2
 go_loopg [3, 4] (L.length + 1) (fun g m x wr => ∃ k : Nat, x = .int .i64 (k : Nat) ∧ k ≤ L.length ∧ m = .int .u8 ((mxL (L.take k) : Nat) : Int) ∧ wr = w ∧ L.length - k < g)
 case atStart => exact ⟨1, rfl, by omega, by rw [HM0.out], rfl, by omega⟩
 case round =>
  obtain ⟨k, rfl, hk1, rfl, rfl, hg⟩ := hrel
  have HG := hide hg
  clear hg c0
  by_cases hk : k < L.length
  · have hk' : (k : Int) < (L.length : Int) := by omega
    have c1 := HC.out k hk
    have HM : Hid (mxL (L.take (k + 1)) = max (mxL (L.take k)) L[k]) := by unfold Hid; rw [List.take_succ_eq_append_getElem hk, mxL_snoc]
    generalize L[k] = y at *
    generalize mxL (L.take k) = m at *
    go_wp2
    all_goals
     go_roundg (L.length - (k + 1) + 1)
     case measure => have := HG.out; omega
     case rel => exact ⟨k + 1, by first | rfl | go_num | (congr 1; omega), by omega, by rw [HM.out]; first | rfl | (congr 1; omega), by first | rfl | trivial, by omega⟩
  · have hk' : ¬ (k : Int) < (L.length : Int) := by omega
    obtain rfl : k = L.length := by omega
    have HE : Hid (mxL (L.take L.length) = mxL L) := by unfold Hid; rw [List.take_length]
    rw [HE.out]
    go_wp2
    go_ret
    exact ⟨rfl, rfl⟩
end Go.Proofs.YtdgoilkgplnhfaaGreat
