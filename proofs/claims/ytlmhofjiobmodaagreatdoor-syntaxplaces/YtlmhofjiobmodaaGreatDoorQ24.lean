/-
  The writer's item: of a let that it writes; of one that has no kind: a panic. Condition: its condition is one that is written.
-/
import Derived.Test.YtlmhofjiobmodaaGreatDoorQ21
import Derived.Test.YtlmhofjiobmodaaGreatDoorQ23
namespace Go.Proofs.YtlmhofjiobmodaaGreatDoor
open Go.RowKit Go.Lib

def itemW (x : IT) (s : WS) : Option WS := if x.k = 1 then (wrdW wLet s).bind fun a => (namW x.nm a).bind fun b => (othW [61] b).bind fun c => (condW 16 x.c 0 c).bind fun d => othW [59] d else none
set_option maxRecDepth 100000 in
set_option maxHeartbeats 8000000 in
theorem witem_ok {w : World} {base wp b0 : Nat} {it : IT} {vs : List Value} {bs : List Nat} {s x : WS} (hs : Smp 16 it.c) (h : WrA w base wp s.1 s.2) (hc : CtAt w b0 it.c vs bs) (hx : itemW it s = some x) :
    Calls Tryz.prog 66 #[.pointer (some ⟨wp, 0, none⟩), .agg (itV it vs).toArray] w (PostW base wp w x) := by
  unfold itemW at hx
  have hk : it.k = 1 := Decidable.byContradiction fun h => by rw [if_neg h] at hx; cases hx
  rw [if_pos hk] at hx
  obtain ⟨s1, h1, hx1⟩ := Option.bind_eq_some_iff.1 hx
  obtain ⟨s2, h2, hx2⟩ := Option.bind_eq_some_iff.1 hx1
  obtain ⟨s3, h3, hx3⟩ := Option.bind_eq_some_iff.1 hx2
  obtain ⟨s4, h4, h5⟩ := Option.bind_eq_some_iff.1 hx3
  clear hx hx1 hx2 hx3
  have HCT := hide hc
  obtain ⟨a3, c3, a4, c4, a5, c5, a6, c6, rfl⟩ := hc.eight
  unfold itV
  rw [hk]
  show Calls Tryz.prog 66 #[.pointer (some ⟨wp, 0, none⟩), .agg #[.int .i64 1, .string ⟨it.nm.toArray⟩, .int .i64 it.c.k, .string ⟨it.c.nm.toArray⟩, .string ⟨it.c.tx.toArray⟩, .slice a3 it.c.pre.length c3, .slice a4 it.c.sp.length c4, .slice a5 it.c.ns.length c5, .slice a6 it.c.kids.length c6, .int .i64 it.c.p, .int .i64 it.p]] w (PostW base wp w x)
  have XW := hide (show Below w.heap.size w (w.alloc (.cells #[.int .i64 1, .string ⟨it.nm.toArray⟩, .int .i64 it.c.k, .string ⟨it.c.nm.toArray⟩, .string ⟨it.c.tx.toArray⟩, .slice a3 it.c.pre.length c3, .slice a4 it.c.sp.length c4, .slice a5 it.c.ns.length c5, .slice a6 it.c.kids.length c6, .int .i64 it.c.p, .int .i64 it.p] 62)) from al (Below.refl _ _) _)
  have HB := hide (heap_alloc_new w (.cells #[.int .i64 1, .string ⟨it.nm.toArray⟩, .int .i64 it.c.k, .string ⟨it.c.nm.toArray⟩, .string ⟨it.c.tx.toArray⟩, .slice a3 it.c.pre.length c3, .slice a4 it.c.sp.length c4, .slice a5 it.c.ns.length c5, .slice a6 it.c.kids.length c6, .int .i64 it.c.p, .int .i64 it.p] 62))
  have RW := hide (h.below XW.out)
  have HCW := hide (HCT.out.below XW.out)
  have HM := hide must_ok
  have HT := hide (iWord_any 1 (by decide) (by decide))
  have H1 := hide (word_ok RW.out h1)
  rw [show iWord 1 = wLet from rfl] at HT
  unfold wLet at H1 HT
  have H2 := hide (fun V (r : WrA V base wp s1.1 s1.2) => name_ok r h2)
  have H3 := hide (fun V (r : WrA V base wp s2.1 s2.2) => other_ok r h3)
  have H4 := hide (fun V (r : WrA V base wp s3.1 s3.2) (k : CtAt V b0 it.c [.int .i64 it.c.k, .string ⟨it.c.nm.toArray⟩, .string ⟨it.c.tx.toArray⟩, .slice a3 it.c.pre.length c3, .slice a4 it.c.sp.length c4, .slice a5 it.c.ns.length c5, .slice a6 it.c.kids.length c6, .int .i64 it.c.p] bs) => cond_all 16 it.c 0 1 s3 s4 V base wp b0 _ bs (by decide) (by decide) hs r k h4)
  have H5 := hide (fun V (r : WrA V base wp s4.1 s4.2) => other_ok r h5)
  clear h1 h2 h3 h4 h5 hs h hc hk HCT
  generalize it.nm = inm at *
  generalize it.p = ip at *
  generalize it.c = c at *
  obtain ⟨P, hP⟩ : ∃ P, P = w.heap.size := ⟨_, rfl⟩
  go_enter Tryz.func66, Tryz.ntmps66
  go_upto_region 1 with fail
  rw [← hP] at HB ⊢
  clear hP
  generalize w.alloc (.cells #[.int .i64 1, .string ⟨inm.toArray⟩, .int .i64 c.k, .string ⟨c.nm.toArray⟩, .string ⟨c.tx.toArray⟩, .slice a3 c.pre.length c3, .slice a4 c.sp.length c4, .slice a5 c.ns.length c5, .slice a6 c.kids.length c6, .int .i64 c.p, .int .i64 ip] 62) = W at *
  have q0 : W.cell? ⟨P, 0, none⟩ = some (.int .i64 1) := by rw [cell_of_row _ _ _ _ _ _ HB.out]; rfl
  go_upto_region 4 with (first | (go_at_call 73; refine (HT.out _).mono ?_; rintro e w1 ⟨rfl, hw⟩; have hw2 := hw.symm; clear hw; subst hw2) | (go_at_call 65; refine (HM.out _).mono ?_; rintro e w2 ⟨rfl, hw⟩; have hw2 := hw.symm; clear hw; subst hw2) | (go_at_call 103; refine H1.out.mono ?_; rintro e w3 ⟨rfl, r3, x3⟩; have R3 := hide r3; have X3 := hide x3; clear r3 x3))
  clear q0 H1 HT
  have HB3 := hide (X3.out.box HB.out (by decide) (RW.out.ne HB.out (by decide)))
  have HC3 := hide (HCW.out.kpo RW.out X3.out)
  have XX3 := hide ((KpO.of_below (base := base) (wp := wp) XW.out).trans X3.out)
  clear HB HCW RW XW X3
  have q1 : w3.cell? ⟨P, 1, none⟩ = some (.string ⟨inm.toArray⟩) := by rw [cell_of_row _ _ _ _ _ _ HB3.out]; rfl
  go_upto_region 5 with (go_at_call 104; refine (H2.out _ R3.out).mono ?_; rintro e w4 ⟨rfl, r4, x4⟩; have R4 := hide r4; have X4 := hide x4; clear r4 x4)
  clear q1 H2
  have HB4 := hide (X4.out.box HB3.out (by decide) (R3.out.ne HB3.out (by decide)))
  have HC4 := hide (HC3.out.kpo R3.out X4.out)
  have XX4 := hide (XX3.out.trans X4.out)
  clear HB3 HC3 XX3 R3 X4
  have q0 : w4.cell? ⟨P, 0, none⟩ = some (.int .i64 1) := by rw [cell_of_row _ _ _ _ _ _ HB4.out]; rfl
  go_upto_region 8 with (go_at_call 105; refine (H3.out _ R4.out).mono ?_; rintro e w5 ⟨rfl, r5, x5⟩; have R5 := hide r5; have X5 := hide x5; clear r5 x5)
  clear q0 H3
  have HB5 := hide (X5.out.box HB4.out (by decide) (R4.out.ne HB4.out (by decide)))
  have HC5 := hide (HC4.out.kpo R4.out X5.out)
  have XX5 := hide (XX4.out.trans X5.out)
  clear HB4 HC4 XX4 R4 X5
  obtain ⟨q0, q1, q2, q3, q4, q5, q6, q7, q8, q9, q10⟩ := ld11 HB5.out
  have HCC := hide (H4.out _ R5.out HC5.out)
  go_upto_region 9 with (go_at_call 106; refine HCC.out.mono ?_; rintro e w6 ⟨rfl, r6, x6⟩; have R6 := hide r6; have X6 := hide x6; clear r6 x6)
  clear q0 q1 q2 q3 q4 q5 q6 q7 q8 q9 q10 H4 HCC
  go_wp2_with (go_at_call 105; refine (H5.out _ R6.out).mono ?_; rintro e w7 ⟨rfl, r7, x7⟩; have R7 := hide r7; have X7 := hide x7; clear r7 x7)
  go_end0
  exact ⟨rfl, R7.out, XX5.out.trans (X6.out.trans X7.out)⟩
set_option maxRecDepth 100000 in
theorem iWord_zero (w : World) : Calls Tryz.prog 73 #[.int .i64 0] w fun e w' => e = .returned (.string ⟨#[]⟩) ∧ w' = w := by
  go_enter Tryz.func73, Tryz.ntmps73
  go_wp2
  go_ret
  exact ⟨rfl, rfl⟩
def zit : Array Value := #[.int .i64 0, .string ⟨#[]⟩, .int .i64 0, .string ⟨#[]⟩, .string ⟨#[]⟩, .slice none 0 0, .slice none 0 0, .slice none 0 0, .slice none 0 0, .int .i64 0, .int .i64 0]
set_option maxRecDepth 100000 in
set_option maxHeartbeats 2000000 in
theorem witem_zero (w : World) (p : Addr) : Calls Tryz.prog 66 #[.pointer (some p), .agg zit] w fun e w' => e = pan 93 0 ∧ Below w.heap.size w w' := by
  have XW := hide (show Below w.heap.size w (w.alloc (.cells zit 62)) from al (Below.refl _ _) _)
  have HB := hide (heap_alloc_new w (.cells zit 62))
  have HT := hide iWord_zero
  have HM := hide must_bad
  unfold zit at XW HB ⊢
  obtain ⟨P, hP⟩ : ∃ P, P = w.heap.size := ⟨_, rfl⟩
  go_enter Tryz.func66, Tryz.ntmps66
  go_upto_region 1 with fail
  rw [← hP] at HB ⊢
  clear hP
  generalize w.alloc (.cells #[.int .i64 0, .string ⟨#[]⟩, .int .i64 0, .string ⟨#[]⟩, .string ⟨#[]⟩, .slice none 0 0, .slice none 0 0, .slice none 0 0, .slice none 0 0, .int .i64 0, .int .i64 0] 62) = W at *
  have q0 : W.cell? ⟨P, 0, none⟩ = some (.int .i64 0) := by rw [cell_of_row _ _ _ _ _ _ HB.out]; rfl
  go_wp2_with (first | (go_at_call 73; refine (HT.out _).mono ?_; rintro e w1 ⟨rfl, hw⟩; have hw2 := hw.symm; clear hw; subst hw2) | (go_at_call 65; refine (HM.out _).mono ?_; rintro e w2 ⟨he', hw⟩; unfold pan at he'; subst he'; have hw2 := hw.symm; clear hw; subst hw2))
  exact ⟨rfl, rfl, XW.out⟩
end Go.Proofs.YtlmhofjiobmodaaGreatDoor
/-
  Items in memory; the reader's policy by its contract. No condition.
-/
namespace Go.Proofs.YtlmhofjiobmodaaGreatDoor
open Go.RowKit Go.Lib

/-- Items, their lists' blocks. -/
def ItsAt (w : World) (base : Nat) : List IT → List Value → List Nat → Prop
  | [], cs, ks => cs = [] ∧ ks = []
  | x :: l, cs, ks => ∃ vs bs cs' ks', cs = itV x vs ++ cs' ∧ ks = bs ++ ks' ∧ CtAt w base x.c vs bs ∧ ItsAt w base l cs' ks'
theorem ItsAt.kept {F : Nat → Prop} {w w' : World} {base : Nat} (hk : Kept F w w') : ∀ {l : List IT} {cs : List Value} {ks : List Nat}, ItsAt w base l cs ks → (∀ k ∈ ks, ¬ F k) → ItsAt w' base l cs ks
  | [], cs, ks, h, _ => h
  | c :: l, cs, ks, h, hF => by
    obtain ⟨vs, bs, cs', ks', h1, h2, h3, h4⟩ := h
    refine ⟨vs, bs, cs', ks', h1, h2, CtAt.kept hk _ vs bs h3 (fun j hj => hF j ?_), ItsAt.kept hk h4 (fun j hj => hF j ?_)⟩
    all_goals
      rw [h2]
      simp [hj]
theorem ItsAt.snoc {w : World} {base : Nat} : ∀ {l : List IT} {cs : List Value} {ks : List Nat} {x : IT} {vs : List Value} {bs : List Nat}, ItsAt w base l cs ks → CtAt w base x.c vs bs → ItsAt w base (l ++ [x]) (cs ++ itV x vs) (ks ++ bs)
  | [], cs, ks, x, vs, bs, h, hc => by
    obtain ⟨rfl, rfl⟩ := h
    exact ⟨vs, bs, [], [], by simp, by simp, hc, rfl, rfl⟩
  | d :: l, cs, ks, x, vs, bs, h, hc => by
    obtain ⟨vs', bs', cs', ks', h1, h2, h3, h4⟩ := h
    exact ⟨vs', bs', cs' ++ itV x vs, ks' ++ bs, by rw [h1, List.append_assoc], by rw [h2, List.append_assoc], h3, ItsAt.snoc h4 hc⟩
theorem ItsAt.lt {w : World} {base : Nat} : ∀ {l : List IT} {cs : List Value} {ks : List Nat}, ItsAt w base l cs ks → ∀ k ∈ ks, base ≤ k ∧ k < w.heap.size
  | [], cs, ks, h => by
    obtain ⟨_, rfl⟩ := h
    intro k hk
    cases hk
  | c :: l, cs, ks, h => by
    obtain ⟨vs, bs, cs', ks', h1, h2, h3, h4⟩ := h
    intro k hk
    rw [h2, List.mem_append] at hk
    rcases hk with hk | hk
    · exact CtAt.lt h3 k hk
    · exact ItsAt.lt h4 k hk
theorem ItsAt.mono {w : World} {base base' : Nat} (hb : base' ≤ base) : ∀ {l : List IT} {cs : List Value} {ks : List Nat}, ItsAt w base l cs ks → ItsAt w base' l cs ks
  | [], _, _, h => h
  | c :: l, cs, ks, h => by
    obtain ⟨vs, bs, cs', ks', h1, h2, h3, h4⟩ := h
    exact ⟨vs, bs, cs', ks', h1, h2, CtAt.mono hb _ vs bs h3, ItsAt.mono hb h4⟩
/-- A policy's items in memory. -/
structure PolA (w : World) (base : Nat) (L : List IT) (v : Value) (cs : List Value) (bs : List Nat) : Prop where
  row : w.ownsRow base 62 11 v L.length cs
  its : ItsAt w base L cs bs
  nd : (bk v ++ bs).Nodup
theorem PolA.kept {F : Nat → Prop} {w w' : World} {base : Nat} {L : List IT} {v : Value} {cs : List Value} {bs : List Nat} (h : PolA w base L v cs bs) (hk : Kept F w w') (hF : ∀ k ∈ bk v ++ bs, ¬ F k) : PolA w' base L v cs bs :=
  ⟨own_kept h.row hk (fun k h1 h2 => hF k (List.mem_append.2 (.inl (mem_blk.2 h1))) h2), ItsAt.kept hk h.its (fun k h1 h2 => hF k (List.mem_append.2 (.inr h1)) h2), h.nd⟩
theorem PolA.lt {w : World} {base : Nat} {L : List IT} {v : Value} {cs : List Value} {bs : List Nat} (h : PolA w base L v cs bs) : ∀ k ∈ bk v ++ bs, base ≤ k ∧ k < w.heap.size := by
  intro k hk
  rcases List.mem_append.1 hk with hk | hk
  · exact World.ownsRow.lt h.row k (mem_blk.1 hk)
  · exact ItsAt.lt h.its k hk
theorem PolA.frame {F : Nat → Prop} {w w' : World} {base : Nat} {L : List IT} {v : Value} {cs : List Value} {bs : List Nat} (h : PolA w base L v cs bs) (hk : Kept F w w') (hF : ∀ k, F k → k < base) : PolA w' base L v cs bs :=
  h.kept hk (fun k h1 h2 => by have := (h.lt k h1).1; have := hF k h2; omega)
theorem PolA.below {w w' : World} {base : Nat} {L : List IT} {v : Value} {cs : List Value} {bs : List Nat} (h : PolA w base L v cs bs) (x : Below w.heap.size w w') : PolA w' base L v cs bs :=
  h.kept (F := fun _ => False) (Kept.of_below x) (fun _ _ hf => hf)
theorem PolA.mono {w : World} {base base' : Nat} {L : List IT} {v : Value} {cs : List Value} {bs : List Nat} (h : PolA w base L v cs bs) (hb : base' ≤ base) : PolA w base' L v cs bs :=
  ⟨own_mono h.row hb, ItsAt.mono hb h.its, h.nd⟩
theorem PolA.nil (w : World) (base : Nat) : PolA w base [] (.slice none 0 0) [] [] := ⟨own_none _ _ _ _, ⟨rfl, rfl⟩, List.nodup_nil⟩
/-- One more. -/
theorem PolA.push {w0 w6 : World} {base g6 cap6 : Nat} {L : List IT} {v : Value} {cs : List Value} {bs : List Nat} {x : IT} {vs : List Value} {cb : List Nat} {b1 H : Nat} (h : PolA w0 base L v cs bs) (hc : CtAt w0 b1 x.c vs cb) (hcn : cb.Nodup) (hb1 : base ≤ b1) (hlo : ∀ k ∈ bk v ++ bs, k < b1)
    (hH : w0.heap.size = H) (hg : w0.grownBy w6 v.ownBlock) (hr : w6.ownsRow base 62 11 (.slice (some ⟨g6, 0, none⟩) (L.length + 1) cap6) (L.length + 1) (cs ++ itV x vs)) (hgg : v.ownBlock = some g6 ∨ g6 = H) :
    PolA w6 base (L ++ [x]) (.slice (some ⟨g6, 0, none⟩) (L.length + 1) cap6) (cs ++ itV x vs) (bs ++ cb) := by
  have K1 := kept_of_grown hg
  have hnd2 := List.nodup_append.1 h.nd
  have hits : ItsAt w6 base L cs bs := ItsAt.kept K1 h.its (fun k h1 h2 => hnd2.2.2 k (mem_blk.2 h2) k h1 rfl)
  have hct : CtAt w6 base x.c vs cb := by
    refine CtAt.mono hb1 _ _ _ (CtAt.kept K1 _ _ _ hc (fun k h1 h2 => ?_))
    have := hlo k (List.mem_append.2 (.inl (mem_blk.2 h2)))
    have := (CtAt.lt hc k h1).1
    omega
  have hmem : ∀ k ∈ bs, k < w0.heap.size := fun k hk => (ItsAt.lt h.its k hk).2
  have hmc : ∀ k ∈ cb, b1 ≤ k ∧ k < w0.heap.size := fun k hk => CtAt.lt hc k hk
  have hb : (bs ++ cb).Nodup := List.nodup_append.2 ⟨hnd2.2.1, hcn, fun a ha b hb e => by
    have := hlo a (List.mem_append.2 (.inr ha))
    have := (hmc b hb).1
    omega⟩
  have hgb : g6 ∉ bs ++ cb := fun hm => by
    rcases List.mem_append.1 hm with hm | hm
    · rcases hgg with e | e
      · exact hnd2.2.2 g6 (mem_blk.2 e) g6 hm rfl
      · have := hmem g6 hm
        omega
    · rcases hgg with e | e
      · have := hlo g6 (List.mem_append.2 (.inl (mem_blk.2 e)))
        have := (hmc g6 hm).1
        omega
      · have := (hmc g6 hm).2
        omega
  refine ⟨by rw [List.length_append, List.length_singleton]; exact hr, ItsAt.snoc hits hct, ?_⟩
  show ([g6] ++ (bs ++ cb)).Nodup
  exact List.nodup_cons.2 ⟨hgb, hb⟩
def PostP (rp : Nat) (w : World) (x : PR (List IT)) (e : Ending) (w' : World) : Prop := match x with
  | .ok L _ => (∃ v cs bs, e = .returned (.agg #[v]) ∧ PolA w' w.heap.size L v cs bs) ∧ Kept (fun k => k = rp) w w'
  | .bad e0 p => e = pan e0 p ∧ Kept (fun k => k = rp) w w'
  | .out => False
theorem PostP.badI {rp : Nat} {w w' : World} {x : PR (List IT)} {e : Ending} {e0 p : Int} (hx : x = .bad e0 p) (he : e = pan e0 p) (h : Kept (fun k => k = rp) w w') : PostP rp w x e w' := by
  subst hx
  exact ⟨he, h⟩
theorem PostP.okI {rp : Nat} {w w' : World} {x : PR (List IT)} {e : Ending} {L : List IT} {j : Nat} {v : Value} {cs : List Value} {bs : List Nat} (hx : x = .ok L j) (he : e = .returned (.agg #[v])) (h1 : PolA w' w.heap.size L v cs bs) (h : Kept (fun k => k = rp) w w') : PostP rp w x e w' := by
  subst hx
  exact ⟨⟨v, cs, bs, he, h1⟩, h⟩
theorem Tryz.info62n : (Tryz.prog.info? 62).map (fun i => (i.zero, i.size, i.bytes)) = some (some (.agg #[.int .i64 0, .string ⟨#[]⟩, .int .i64 0, .string ⟨#[]⟩, .string ⟨#[]⟩, .slice none 0 0, .slice none 0 0, .slice none 0 0, .slice none 0 0, .int .i64 0, .int .i64 0]), 11, 176) := by kernel_rfl
set_option maxRecDepth 100000 in
set_option maxHeartbeats 8000000 in
theorem policy_any {rbase rp g cap : Nat} {Ts : List Tk} {f : Nat} {w : World} (hf : 5 * Ts.length + 6 ≤ f) (hR : RdA w rbase rp g cap Ts 0) :
    Calls Tryz.prog 28 #[.pointer (some ⟨rp, 0, none⟩)] w (PostP rp w (polP Ts f [] 0)) := by
  obtain ⟨x, hx⟩ : ∃ x, x = polP Ts f [] 0 := ⟨_, rfl⟩
  rw [← hx]
  have HX := hide hx
  have HF := hide hf
  obtain ⟨Q, hQ⟩ : ∃ Q, Q = w.heap.size := ⟨_, rfl⟩
  obtain ⟨P, hP⟩ : ∃ P, P = w.heap.size + 1 := ⟨_, rfl⟩
  obtain ⟨W, hW⟩ : ∃ W, W = (w.alloc (.cells #[.slice none 0 0] 36)).alloc (.cells #[.slice none 0 0] 36) := ⟨_, rfl⟩
  have X0 := hide (show Below w.heap.size w W by rw [hW]; exact al (al (Below.refl _ _) _) _)
  have Q0 := hide (show W.heap[Q]? = some (.cells #[.slice none 0 0] 36 (0, 0)) by
    rw [hW, hQ]
    exact (heap_alloc_old _ _ (by simp)).trans (heap_alloc_new w _))
  have P0 := hide (show W.heap[P]? = some (.cells #[.slice none 0 0] 36 (0, 0)) by
    rw [hW, hP, show w.heap.size + 1 = (w.alloc (.cells #[.slice none 0 0] 36)).heap.size by simp]
    exact heap_alloc_new _ _)
  have R0 := hide (hR.below X0.out)
  have HSZ : Hid (Q = w.heap.size ∧ P = w.heap.size + 1 ∧ W.heap.size = w.heap.size + 2) := ⟨hQ, hP, by rw [hW]; simp⟩
  have HGL : Hid (rp < Q ∧ g < Q) := by have := hR.gl; unfold Hid; omega
  have K0 : Hid (Kept (fun k => k = rp) w W) := Kept.of_below X0.out
  have O0 := hide (PolA.nil W W.heap.size)
  clear hx hf hR
  go_enter Tryz.func28, Tryz.ntmps28
  go_upto_block 0 with fail
  rw [← hP, ← hW, ← hQ]
  clear hP hW hQ X0
  have nQ : Q ≠ rp := by have := HGL.out; omega
  have nP : P ≠ rp := by have := HGL.out; have := HSZ.out; omega
  go_wp2
  go_loopg [8] (f + 1) (fun gg xx wr => ∃ (L : List IT) (v : Value) (cs : List Value) (bs : List Nat) (j' f' : Nat), xx = xx ∧ Hid (PolA wr W.heap.size L v cs bs) ∧ Hid (wr.heap[P]? = some (.cells #[v] 36 (0, 0))) ∧ Hid (RdA wr rbase rp g cap Ts j') ∧ Hid (Kept (fun k => k = rp) w wr) ∧ Hid (wr.heap[Q]? = some (.cells #[.slice none 0 0] 36 (0, 0))) ∧ Hid (x = polP Ts f' L j') ∧ Hid (L.length ≤ 100) ∧ Hid ((Ts.length - j') + 4 * Ts.length + 6 ≤ f') ∧ f' < gg)
  case atStart =>
    exact ⟨_, _, _, _, 0, f, rfl, O0, P0, R0, K0, Q0, HX, by simp [Hid], by have := HF.out; unfold Hid; omega, by omega⟩
  case round =>
    clear O0 P0 R0 K0 Q0 HX
    obtain ⟨L, v, cs, bs, j', f', _, OR, PR0, RR, KR, QR, HX, HKL, HFU0, hg⟩ := hrel
    have HG := hide hg
    clear hg
    cases f' with
    | zero => exact absurd HFU0.out (by omega)
    | succ f' =>
      have HFU : Hid ((Ts.length - j') + 4 * Ts.length + 5 ≤ f') := by have := HFU0.out; unfold Hid; omega
      clear HFU0
      have HM : Hid (x = if (tok Ts j').k = 8 then .ok L j'
        else if itemAt Ts j' = 0 then .bad 90 (tok Ts j').p
        else if L.length = 100 then .bad 92 (tok Ts j').p
        else (itemP Ts f' (itemAt Ts j') j').bind fun x j => polP Ts f' (L ++ [x]) j) := HX.out
      clear HX
      obtain ⟨a6, c6, hv, _⟩ := own_shape OR.out.row
      subst hv
      have HT := hide (token_any RR.out)
      unfold tkV at HT
      obtain ⟨z, hz⟩ : ∃ z, z = tok Ts j' := ⟨_, rfl⟩
      rw [← hz] at HT HM
      have HZ := hide hz
      clear hz
      have hf0 := fld0
      by_cases h8 : z.k = 8
      · have h8b : (z.k != 8) = false := by simp [h8]
        have HM2 : Hid (x = .ok L j') := by unfold Hid; rw [HM.out, if_pos h8]
        clear HM h8
        go_upto_region 7 with (go_at_call 50; refine HT.out.mono ?_; rintro e w1 ⟨rfl, x1⟩; have X1 := hide x1; clear x1)
        clear hf0 h8b
        have P1 := hide ((X1.out.block P (lt_of_block PR0.out)).trans PR0.out)
        have Q1 := hide ((X1.out.block Q (lt_of_block QR.out)).trans QR.out)
        have O1 := hide (OR.out.below X1.out)
        have K1 := hide (KR.out.trans (Kept.of_below X1.out))
        clear HT X1 OR PR0 RR KR QR
        have g0 : w1.cell? ⟨P, 0, none⟩ = some (.slice a6 L.length c6) := by rw [cell_of_row _ _ _ _ _ _ P1.out]; rfl
        have g1 : w1.cell? ⟨Q, 0, none⟩ = some (.slice none 0 0) := by rw [cell_of_row _ _ _ _ _ _ Q1.out]; rfl
        have f1 := frozen_of_row w1 Q 0 _ _ Q1.out
        have Q9 : Hid ((w1.setCell ⟨Q, 0, none⟩ (.slice a6 L.length c6)).heap[Q]? = some (.cells #[.slice a6 L.length c6] 36 (0, 0))) := by
          have := block_setCell' Q1.out 0 (.slice a6 L.length c6)
          simpa [Hid] using this
        have KQ : Hid (Kept (fun k => k = Q) w1 (w1.setCell ⟨Q, 0, none⟩ (.slice a6 L.length c6))) := Kept.setCell (F := fun k => k = Q) (p := ⟨Q, 0, none⟩) (Kept.refl _ _) rfl _
        go_wp2
        clear g0 g1 f1
        generalize w1.setCell ⟨Q, 0, none⟩ (.slice a6 L.length c6) = w9 at *
        have g0 : w9.cell? ⟨Q, 0, none⟩ = some (.slice a6 L.length c6) := by rw [cell_of_row _ _ _ _ _ _ Q9.out]; rfl
        refine bodyPost_ret (by simp [results, Tryz.results28, go_sem, g0]; try rfl) rfl ?_
        refine PostP.okI HM2.out rfl ((O1.out.frame KQ.out (fun k hk => ?_)).mono ?_) (K1.out.fin KQ.out ?_)
        · have := HSZ.out
          rw [hk]
          omega
        · have := HSZ.out
          omega
        · have := HSZ.out
          omega
      · have h8b : (z.k != 8) = true := by simpa using h8
        have HM2 : Hid (x = if itemAt Ts j' = 0 then .bad 90 z.p
          else if L.length = 100 then .bad 92 z.p
          else (itemP Ts f' (itemAt Ts j') j').bind fun x j => polP Ts f' (L ++ [x]) j) := by unfold Hid; rw [HM.out, if_neg h8]
        clear HM h8
        go_upto_region 3 with (go_at_call 50; refine HT.out.mono ?_; rintro e w1 ⟨rfl, x1⟩; have X1 := hide x1; clear x1)
        clear hf0 h8b
        have P1 := hide ((X1.out.block P (lt_of_block PR0.out)).trans PR0.out)
        have Q1 := hide ((X1.out.block Q (lt_of_block QR.out)).trans QR.out)
        have O1 := hide (OR.out.below X1.out)
        have R1 := hide (RR.out.below X1.out)
        have K1 := hide (KR.out.trans (Kept.of_below X1.out))
        clear HT X1 OR PR0 RR KR QR
        have HIK := hide (itemKind_any R1.out)
        by_cases h0 : itemAt Ts j' = 0
        · have HM3 : Hid (x = .bad 90 z.p) := by unfold Hid; rw [HM2.out, if_pos h0]
          have H0 := hide h0
          clear HM2 h0
          go_wp2_with (fail)
          refine HIK.out.mono ?_
          rintro e w2 ⟨_, he, x2⟩
          have he := he H0.out
          unfold pan at he
          subst he
          exact ⟨rfl, PostP.badI HM3.out (by rw [HZ.out]; rfl) (K1.out.trans (Kept.of_below x2))⟩
        · have HM3 : Hid (x = if L.length = 100 then .bad 92 z.p
            else (itemP Ts f' (itemAt Ts j') j').bind fun x j => polP Ts f' (L ++ [x]) j) := by unfold Hid; rw [HM2.out, if_neg h0]
          have HK1 : Hid ((tok Ts j').k = 1) := by
            rcases kindAt_le Ts iWord j' 3 1 with h | ⟨_, _, h3⟩
            · exact absurd h h0
            · exact isT_kind h3
          have H0 := hide h0
          clear HM2 h0
          go_upto_region 4 with (go_at_call 51; refine HIK.out.mono ?_; rintro e w2 ⟨he, _, x2⟩; have he := he H0.out; subst he; have X2 := hide x2; clear x2)
          have P2 := hide ((X2.out.block P (lt_of_block P1.out)).trans P1.out)
          have Q2 := hide ((X2.out.block Q (lt_of_block Q1.out)).trans Q1.out)
          have O2 := hide (O1.out.below X2.out)
          have R2 := hide (R1.out.below X2.out)
          have K2 := hide (K1.out.trans (Kept.of_below X2.out))
          clear HIK X2 P1 Q1 O1 R1 K1
          have g0 : w2.cell? ⟨P, 0, none⟩ = some (.slice a6 L.length c6) := by rw [cell_of_row _ _ _ _ _ _ P2.out]; rfl
          by_cases h1 : L.length = 100
          · have h1b : ((L.length : Int) == 100) = true := by simp; omega
            have HM4 : Hid (x = .bad 92 z.p) := by unfold Hid; rw [HM3.out, if_pos h1]
            have HRF := hide (refuse_any R2.out 92)
            clear HM3 h1
            go_wp2_with (fail)
            refine HRF.out.mono ?_
            rintro e w3 ⟨he, x3⟩
            unfold pan at he
            subst he
            exact ⟨rfl, PostP.badI HM4.out (by rw [HZ.out]; rfl) (K2.out.trans (Kept.of_below x3))⟩
          · have h1b : ((L.length : Int) == 100) = false := by simp; omega
            have HM4 : Hid (x = (itemP Ts f' (itemAt Ts j') j').bind fun x j => polP Ts f' (L ++ [x]) j) := by unfold Hid; rw [HM3.out, if_neg h1]
            have HL1 := hide h1
            clear HM3 h1
            go_upto_region 6 with fail
            clear g0 h1b
            have HM3 := hide HM4.out
            have R8 := hide R2.out
            have O8 := hide O2.out
            have P8 := hide P2.out
            have Q8 := hide Q2.out
            have K8 := hide K2.out
            clear HM4 R2 O2 P2 Q2 K2
            refine wp_unt (S := fun V => V.cell? ⟨P, 0, none⟩ = some (.slice a6 L.length c6)) 8 (by kernel_rfl) ?_
            have HS0 : Hid (Below w2.heap.size w2 w2.drew) := (Below.refl _ _).drew
            have RA := hide (R8.out.below HS0.out)
            have OA := hide (O8.out.below HS0.out)
            have PA := hide ((HS0.out.block P (lt_of_block P8.out)).trans P8.out)
            have QA := hide ((HS0.out.block Q (lt_of_block Q8.out)).trans Q8.out)
            have KA := hide (K8.out.trans (Kept.of_below HS0.out))
            clear HS0 R8 O8 P8 Q8 K8
            generalize w2.drew = wA at *
            have SF : Hid (∀ V : World, V.heap[P]? = some (.cells #[.slice a6 L.length c6] 36 (0, 0)) → V.cell? ⟨P, 0, none⟩ = some (.slice a6 L.length c6)) := fun V h1 => by rw [cell_of_row _ _ _ _ _ _ h1]; rfl
            have SA := hide (SF.out wA PA.out)
            refine UntH.take (i := 0) (some 17) rfl rfl (by kernel_rfl) (by kernel_rfl) (by kernel_rfl) (by kernel_rfl) (fun _ _ _ _ h => h) (by rfl) SA.out ?_
            apply Exists.intro
            refine ⟨fun w' hw' => ?_, ?_⟩
            · have q1 := hw'
              go_simp
              first | done | rfl
            try simp only [Act.put, List.setIfInBounds_toArray, List.set_cons_zero, List.set_cons_succ]
            refine UntH.take (i := 1) (some 18) rfl rfl (by kernel_rfl) (by kernel_rfl) (by kernel_rfl) (by kernel_rfl) (fun _ _ _ _ h => h) (by rfl) SA.out ?_
            apply Exists.intro
            refine ⟨fun w' hw' => ?_, ?_⟩
            · have q1 := hw'
              go_simp
              first | done | rfl
            try simp only [Act.put, List.setIfInBounds_toArray, List.set_cons_zero, List.set_cons_succ]
            refine UntH.take (i := 2) (some 19) rfl rfl (by kernel_rfl) (by kernel_rfl) (by kernel_rfl) (by kernel_rfl) (fun _ _ _ _ h => h) (by rfl) SA.out ?_
            apply Exists.intro
            refine ⟨fun w' hw' => ?_, ?_⟩
            · have q1 := hw'
              go_simp
              first | done | rfl
            try simp only [Act.put, List.setIfInBounds_toArray, List.set_cons_zero, List.set_cons_succ]
            refine UntH.take (i := 3) (some 20) rfl rfl (by kernel_rfl) (by kernel_rfl) (by kernel_rfl) (by kernel_rfl) (fun _ _ _ _ h => h) (by rfl) SA.out ?_
            apply Exists.intro
            refine ⟨fun w' hw' => ?_, ?_⟩
            · have q1 := hw'
              go_simp
              first | done | rfl
            try simp only [Act.put, List.setIfInBounds_toArray, List.set_cons_zero, List.set_cons_succ]
            have HI := hide (item_any (kind := itemAt Ts j') HK1.out (by have := HFU.out; omega) RA.out (f := f'))
            refine UntH.step (i := 4) (by kernel_rfl) rfl (fun K hK => ?_)
            go_simp
            refine HI.out.mono ?_
            intro e wB hp
            cases hxa : itemP Ts f' (itemAt Ts j') j' with
            | out => rw [hxa] at hp; exact absurd hp (fun h => h)
            | bad e0 p =>
              rw [hxa] at hp HM3
              obtain ⟨he, k3⟩ := hp
              unfold pan at he
              subst he
              exact ⟨rfl, PostP.badI HM3.out rfl (KA.out.trans k3)⟩
            | ok x2 j2 =>
              have HJ2 := hide ((itemP_fwd f' (itemAt Ts j') j' (by have := HFU.out; omega)).lt hxa)
              rw [hxa] at hp HM3
              obtain ⟨⟨vs, cb, he, hct, hnd⟩, r3, k3⟩ := hp
              obtain ⟨d3, e3, d4, e4, d5, e5, d6, e6, rfl⟩ := hct.eight
              have he : e = .returned (.agg #[.int .i64 x2.k, .string ⟨x2.nm.toArray⟩, .int .i64 x2.c.k, .string ⟨x2.c.nm.toArray⟩, .string ⟨x2.c.tx.toArray⟩, .slice d3 x2.c.pre.length e3, .slice d4 x2.c.sp.length e4, .slice d5 x2.c.ns.length e5, .slice d6 x2.c.kids.length e6, .int .i64 x2.c.p, .int .i64 x2.p]) := he
              subst he
              have hlo : ∀ k, k = rp → k < W.heap.size := by have := HGL.out; have := HSZ.out; intro k hk; omega
              have CB := hide hct
              have HND := hide hnd
              have RB := hide r3
              have OB := hide (OA.out.frame k3 hlo)
              have PB := hide ((k3.block P (lt_of_block PA.out) nP).trans PA.out)
              have QB := hide ((k3.block Q (lt_of_block QA.out) nQ).trans QA.out)
              have KB := hide (KA.out.trans k3)
              have HLO : Hid (∀ k ∈ bk (.slice a6 L.length c6) ++ bs, k < wA.heap.size) := fun k hk => (OA.out.lt k hk).2
              have SB := hide (SF.out wB PB.out)
              have HM4 : Hid (x = polP Ts f' (L ++ [x2]) j2) := HM3.out
              have HWA : Hid (W.heap.size ≤ wA.heap.size) := by have := lt_of_block PA.out; have := HSZ.out; unfold Hid; omega
              refine hK _ _ SB.out ?_
              clear hK K HI hxa hct hnd r3 k3 HM3 hlo RA OA PA QA KA SA
              try simp only [Act.put, List.setIfInBounds_toArray, List.set_cons_zero, List.set_cons_succ]
              have XC : Hid (Below wB.heap.size wB (wB.alloc (.cells #[.int .i64 x2.k, .string ⟨x2.nm.toArray⟩, .int .i64 x2.c.k, .string ⟨x2.c.nm.toArray⟩, .string ⟨x2.c.tx.toArray⟩, .slice d3 x2.c.pre.length e3, .slice d4 x2.c.sp.length e4, .slice d5 x2.c.ns.length e5, .slice d6 x2.c.kids.length e6, .int .i64 x2.c.p, .int .i64 x2.p] 62))) := al (Below.refl _ _) _
              have RC := hide (RB.out.below XC.out)
              have OC := hide (OB.out.below XC.out)
              have PC := hide ((XC.out.block P (lt_of_block PB.out)).trans PB.out)
              have QC := hide ((XC.out.block Q (lt_of_block QB.out)).trans QB.out)
              have KC := hide (KB.out.trans (Kept.of_below XC.out))
              have CC := hide (CB.out.below XC.out)
              have SC := hide (SF.out (wB.alloc (.cells #[.int .i64 x2.k, .string ⟨x2.nm.toArray⟩, .int .i64 x2.c.k, .string ⟨x2.c.nm.toArray⟩, .string ⟨x2.c.tx.toArray⟩, .slice d3 x2.c.pre.length e3, .slice d4 x2.c.sp.length e4, .slice d5 x2.c.ns.length e5, .slice d6 x2.c.kids.length e6, .int .i64 x2.c.p, .int .i64 x2.p] 62)) PC.out)
              have HNW := hide (World.news_of_block (heap_alloc_new wB (.cells #[.int .i64 x2.k, .string ⟨x2.nm.toArray⟩, .int .i64 x2.c.k, .string ⟨x2.c.nm.toArray⟩, .string ⟨x2.c.tx.toArray⟩, .slice d3 x2.c.pre.length e3, .slice d4 x2.c.sp.length e4, .slice d5 x2.c.ns.length e5, .slice d6 x2.c.kids.length e6, .int .i64 x2.c.p, .int .i64 x2.p] 62)))
              have HWB : Hid (W.heap.size ≤ (wB.alloc (.cells #[.int .i64 x2.k, .string ⟨x2.nm.toArray⟩, .int .i64 x2.c.k, .string ⟨x2.c.nm.toArray⟩, .string ⟨x2.c.tx.toArray⟩, .slice d3 x2.c.pre.length e3, .slice d4 x2.c.sp.length e4, .slice d5 x2.c.ns.length e5, .slice d6 x2.c.kids.length e6, .int .i64 x2.c.p, .int .i64 x2.p] 62)).heap.size) := by have := lt_of_block PC.out; have := HSZ.out; unfold Hid; omega
              obtain ⟨ie, hie, hz0, hz1, hz2⟩ := info_parts Tryz.info62n
              refine UntH.step (i := 5) (by kernel_rfl) rfl (fun K hK => ?_)
              go_simp
              refine hK _ _ SC.out ?_
              clear hK K RB OB PB QB KB CB SB XC
              try simp only [Act.put, List.setIfInBounds_toArray, List.set_cons_zero, List.set_cons_succ]
              refine UntH.step (i := 6) (by kernel_rfl) rfl (fun K hK => ?_)
              refine step_append_lies _ (by rfl) (.tmp 18) (.tmp 22) 34 (by rfl) W.heap.size 62 ie (.agg #[.int .i64 0, .string ⟨#[]⟩, .int .i64 0, .string ⟨#[]⟩, .string ⟨#[]⟩, .slice none 0 0, .slice none 0 0, .slice none 0 0, .slice none 0 0, .int .i64 0, .int .i64 0]) 11 176 Tryz.underlying34 hie hz0 hz1 hz2 rfl (by decide) _ L.length cs (by rfl) OC.out.row ⟨wB.heap.size, 0, none⟩ 1 1 [.int .i64 x2.k, .string ⟨x2.nm.toArray⟩, .int .i64 x2.c.k, .string ⟨x2.c.nm.toArray⟩, .string ⟨x2.c.tx.toArray⟩, .slice d3 x2.c.pre.length e3, .slice d4 x2.c.sp.length e4, .slice d5 x2.c.ns.length e5, .slice d6 x2.c.kids.length e6, .int .i64 x2.c.p, .int .i64 x2.p] (by rfl) (by rfl) HNW.out (by simp [Value.oneCell']) (by decide) (by have := HKL.out; unfold maxLen; omega) (by have := HKL.out; omega) HWB.out _ rfl ?_
              intro gD cD wD h1 h2 h3 h4
              have OD : Hid (PolA wD W.heap.size (L ++ [x2]) (.slice (some ⟨gD, 0, none⟩) (L.length + 1) cD) _ (bs ++ cb)) := PolA.push OC.out CC.out HND.out HWA.out HLO.out rfl h2 h1 h3
              have hkg := kept_of_grown h2
              have hge : ∀ k, (Value.slice a6 L.length c6).ownBlock = some k → W.heap.size ≤ k := fun k hk => (World.ownsRow.lt OC.out.row k hk).1
              have KG : Hid (Kept (fun k => W.heap.size ≤ k) (wB.alloc (.cells #[.int .i64 x2.k, .string ⟨x2.nm.toArray⟩, .int .i64 x2.c.k, .string ⟨x2.c.nm.toArray⟩, .string ⟨x2.c.tx.toArray⟩, .slice d3 x2.c.pre.length e3, .slice d4 x2.c.sp.length e4, .slice d5 x2.c.ns.length e5, .slice d6 x2.c.kids.length e6, .int .i64 x2.c.p, .int .i64 x2.p] 62)) wD) := hkg.mono hge
              have hl2 : ¬ W.heap.size ≤ P ∧ ¬ W.heap.size ≤ Q ∧ ¬ W.heap.size ≤ rp ∧ ¬ W.heap.size ≤ g := by have := HGL.out; have := HSZ.out; exact ⟨by omega, by omega, by omega, by omega⟩
              have PD := hide ((KG.out.block P (lt_of_block PC.out) hl2.1).trans PC.out)
              have QD := hide ((KG.out.block Q (lt_of_block QC.out) hl2.2.1).trans QC.out)
              have RD := hide (RC.out.kept KG.out hl2.2.2.1 hl2.2.2.2)
              have KD : Hid (Kept (fun k => k = rp) w wD) := Kept.trans_new KC.out KG.out (fun k h1 h2 => absurd h2 (by have := HSZ.out; omega))
              have SD := hide (SF.out wD PD.out)
              refine hK _ _ SD.out ?_
              clear hK K h1 h2 h3 h4 hkg hge KG RC OC PC QC KC CC SC HNW hl2 HWB
              refine UntH.take (i := 7) (some 24) rfl rfl (by kernel_rfl) (by kernel_rfl) (by kernel_rfl) (by kernel_rfl) (fun _ _ _ _ h => h) (by rfl) SD.out ?_
              apply Exists.intro
              refine ⟨fun w' hw' => ?_, ?_⟩
              · have q1 := hw'
                go_simp
                first | done | rfl
              have c7 := SD.out
              have f7 := frozen_of_row wD P 0 _ _ PD.out
              refine UntH.last (by kernel_rfl) rfl (by kernel_rfl) (by kernel_rfl) (fun K hK => ?_)
              go_simp
              refine hK _ _ ?_
              clear hK K c7 f7
              have K9 : Hid (Kept (fun k => k = P) wD (wD.setCell ⟨P, 0, none⟩ (.slice (some ⟨gD, 0, none⟩) (L.length + 1) cD))) := Kept.setCell (F := fun k => k = P) (p := ⟨P, 0, none⟩) (Kept.refl _ _) rfl _
              have hl2 : Q ≠ P ∧ rp ≠ P ∧ g ≠ P ∧ P < W.heap.size := by have := HGL.out; have := HSZ.out; exact ⟨by omega, by omega, by omega, by omega⟩
              have P9 : Hid ((wD.setCell ⟨P, 0, none⟩ (.slice (some ⟨gD, 0, none⟩) (L.length + 1) cD)).heap[P]? = some (.cells #[.slice (some ⟨gD, 0, none⟩) (L.length + 1) cD] 36 (0, 0))) := by
                have := block_setCell' PD.out 0 (.slice (some ⟨gD, 0, none⟩) (L.length + 1) cD)
                simpa [Hid] using this
              have Q9 := hide ((K9.out.block Q (lt_of_block QD.out) hl2.1).trans QD.out)
              have R9 := hide (RD.out.kept K9.out hl2.2.1 hl2.2.2.1)
              have O9 := hide (OD.out.frame K9.out (fun k hk => by rw [hk]; exact hl2.2.2.2))
              have KK9 : Hid (Kept (fun k => k = rp) w (wD.setCell ⟨P, 0, none⟩ (.slice (some ⟨gD, 0, none⟩) (L.length + 1) cD))) := KD.out.fin K9.out (by have := HSZ.out; omega)
              clear hl2 PD QD RD KD SD OD K9 SF
              generalize wD.setCell ⟨P, 0, none⟩ (.slice (some ⟨gD, 0, none⟩) (L.length + 1) cD) = w9 at *
              go_wp2
              go_roundg (f' + 1)
              case measure => have := HG.out; omega
              case rel => exact ⟨_, _, _, _, j2, f', (by first | rfl | trivial), O9, P9, R9, KK9, Q9, HM4, by have := HKL.out; have := HL1.out; unfold Hid; rw [List.length_append, List.length_singleton]; omega, by have := HFU.out; have := HJ2.out; unfold Hid; omega, by omega⟩
end Go.Proofs.YtlmhofjiobmodaaGreatDoor
