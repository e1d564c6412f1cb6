/-
  A region that draws its order, behind the operation that is told apart. Of no program: no condition.
-/
import Derived.Test.YtkpdbbbeagnjpaaGreatDoorQ05
import Derived.Test.YtkpdbbbeagnjpaaGreatDoorQ04
import Derived.Deep.AppendLies
import Derived.Deep.RegionLaw
namespace Go.Proofs.YtkpdbbbeagnjpaaGreatDoor
open Go.RowKit Go.Lib

section
variable {P : Program} {ops : Array Oper} {Q : Exit → Act → World → Prop} {md : Region.Mode} {S : World → Prop} {z : Nat}
/-- Only one may come up, and z has come up, or is it: nothing is asked of the world. -/
theorem UntH.stepf {i n : Nat} {o : Oper} {done : Array Bool} {a : Act} {w : World} (hr : Region.ready md ops done = [i]) (ho : ops[i]? = some o) (hz : (done.setIfInBounds i true).getD z true = true) (h : ∀ K' : Act → World → Prop, Shut (∀ a w, UntH P md ops Q S z n (done.setIfInBounds i true) a w → K' a w) → if Region.wanted o (yielded ops a.tmps) = true then Oper.wp P o a w K' Q else K' (a.put o.dst undef) w) : UntH P md ops Q S z (n + 1) done a w :=
  UntH.one hr (wpOp_step ho (fun K' hK => h K' (fun a w h1 => hK a w ⟨fun h2 => (by rw [hz] at h2; cases h2), h1⟩)))
end
end Go.Proofs.YtkpdbbbeagnjpaaGreatDoor
/-
  The scanner's add by its contract. Conditions: the scanner's tokens are a row that it owns, of at most 2^32.
-/
namespace Go.Proofs.YtkpdbbbeagnjpaaGreatDoor
open Go.RowKit Go.Lib

/-- A token. -/
structure Tk where
  k : Int
  t : By
  n : Int
  a : Int
  b : Int
  p : Int
def tkV (x : Tk) : Array Value := #[.int .i64 x.k, .string ⟨x.t.toArray⟩, .int .i64 x.n, .int .i64 x.a, .int .i64 x.b, .int .i64 x.p]
def tkC (L : List Tk) : List Value := (L.map fun x => (tkV x).toList).flatten
theorem tkC_snoc (L : List Tk) (x : Tk) : tkC (L ++ [x]) = tkC L ++ (tkV x).toList := by simp [tkC]
theorem Tryz.info40n : (Tryz.prog.info? 40).map (fun i => (i.zero, i.size, i.bytes)) = some (some (.agg #[.int .i64 0, .string ⟨#[]⟩, .int .i64 0, .int .i64 0, .int .i64 0, .int .i64 0]), 6, 56) := by kernel_rfl
theorem info40s : (Tryz.prog.info? 40).map (·.size) = some 6 := by kernel_rfl
set_option maxHeartbeats 4000000 in
set_option maxRecDepth 100000 in
theorem add_any (p base : Nat) (s0 tv s2 ad bv : Value) (fr : Int) (tk : List Tk) (x : Tk) (w : World) (hb : w.heap[p]? = some (.cells #[s0, tv, s2, .int .i64 fr, ad, bv] 47 (0, 0))) (ht : w.ownsRow base 40 6 tv tk.length (tkC tk)) (hl : tk.length ≤ 4294967296) (hbase : base ≤ w.heap.size) :
    Calls Tryz.prog 37 #[.pointer (some ⟨p, 0, none⟩), .agg (tkV x)] w fun e w' => e = .returned (.tuple #[]) ∧ (∃ tv', w'.heap[p]? = some (.cells #[s0, tv', s2, .int .i64 fr, ad, bv] 47 (0, 0)) ∧ w'.ownsRow base 40 6 tv' (tk.length + 1) (tkC (tk ++ [{ x with p := fr }]))) ∧ KpO 40 base p w w' := by
  obtain ⟨i40, hi40, hz0, hz1, hz2⟩ := info_parts Tryz.info40n
  obtain ⟨ao, cp, hts, _⟩ := own_shape ht
  subst hts
  have hpl := lt_of_block hb
  have hd := cell_of_row _ _ 3 _ _ _ hb
  simp only [List.getElem?_toArray, List.getElem?_cons_succ, List.getElem?_cons_zero] at hd
  have HB := hide hb
  have HT := hide ht
  clear hb ht
  unfold tkV
  go_enter Tryz.func37, Tryz.ntmps37
  go_upto_region 2 with fail
  obtain ⟨w2, hw2⟩ : ∃ w2, w2 = w.alloc (.cells #[.int .i64 x.k, .string ⟨x.t.toArray⟩, .int .i64 x.n, .int .i64 x.a, .int .i64 x.b, .int .i64 fr] 40) := ⟨_, rfl⟩
  have X2 : Hid (Below w.heap.size w w2) := by unfold Hid; rw [hw2]; exact al (Below.refl _ _) _
  have B2 : Hid (w2.heap[w.heap.size]? = some (.cells #[.int .i64 x.k, .string ⟨x.t.toArray⟩, .int .i64 x.n, .int .i64 x.a, .int .i64 x.b, .int .i64 fr] 40 (0, 0))) := by unfold Hid; rw [hw2]; exact heap_alloc_new w _
  rw [← hw2]
  clear hw2 hd
  have HBP : Hid (w2.heap[p]? = some (.cells #[s0, .slice ao tk.length cp, s2, .int .i64 fr, ad, bv] 47 (0, 0))) := (X2.out.block p hpl).trans HB.out
  obtain ⟨bq, hbq⟩ : ∃ bq, bq = w.heap.size := ⟨_, rfl⟩
  rw [← hbq] at B2 ⊢
  have HBQ := hide hbq
  clear hbq
  have HPQ : Hid (∀ k, (Value.slice ao tk.length cp).ownBlock = some k → k ≠ p ∧ k < bq ∧ base ≤ k ∧ ∃ c, w.heap[k]? = some (.cells c 40 (0, 0))) := fun k hk => by
    obtain ⟨c, hc⟩ := own_ty HT.out k hk
    refine ⟨fun e => ?_, by have := lt_of_block hc; have := HBQ.out; omega, (World.ownsRow.lt HT.out k hk).1, c, hc⟩
    rw [e, HB.out] at hc
    injection hc with hc
    injection hc with _ hc _
    cases hc
  have HX : Hid (∀ V, Below w2.heap.size w2 V → V.ownsRow base 40 6 (.slice ao tk.length cp) tk.length (tkC tk)) := fun V y => own_below (own_below HT.out X2.out) y
  obtain ⟨S, HSE⟩ : ∃ S : World → Prop, Hid (∀ V, S V ↔ V.heap[p]? = some (.cells #[s0, .slice ao tk.length cp, s2, .int .i64 fr, ad, bv] 47 (0, 0)) ∧ V.heap[bq]? = some (.cells #[.int .i64 x.k, .string ⟨x.t.toArray⟩, .int .i64 x.n, .int .i64 x.a, .int .i64 x.b, .int .i64 fr] 40 (0, 0))) := ⟨_, fun V => Iff.rfl⟩
  have HRD : Hid (∀ V, S V → V.cell? ⟨p, 1, none⟩ = some (.slice ao tk.length cp) ∧ V.cell? ⟨bq, 0, none⟩ = some (.int .i64 x.k) ∧ V.cell? ⟨bq, 1, none⟩ = some (.string ⟨x.t.toArray⟩) ∧ V.cell? ⟨bq, 2, none⟩ = some (.int .i64 x.n) ∧ V.cell? ⟨bq, 3, none⟩ = some (.int .i64 x.a) ∧ V.cell? ⟨bq, 4, none⟩ = some (.int .i64 x.b) ∧ V.cell? ⟨bq, 5, none⟩ = some (.int .i64 fr)) := fun V hV => by
    obtain ⟨h1, h2⟩ := (HSE.out V).1 hV
    exact ⟨by rw [cell_of_row _ _ _ _ _ _ h1]; rfl, by rw [cell_of_row _ _ _ _ _ _ h2]; rfl, by rw [cell_of_row _ _ _ _ _ _ h2]; rfl, by rw [cell_of_row _ _ _ _ _ _ h2]; rfl, by rw [cell_of_row _ _ _ _ _ _ h2]; rfl, by rw [cell_of_row _ _ _ _ _ _ h2]; rfl, by rw [cell_of_row _ _ _ _ _ _ h2]; rfl⟩
  have HS0 : Hid (S w2.drew) := (HSE.out _).2 ⟨HBP.out, B2.out⟩
  have XD : Hid (Below w2.heap.size w2 w2.drew) := (Below.refl _ _).drew
  have HSB : Hid (∀ V, Below w2.drew.heap.size w2.drew V → S V) := fun V y => (HSE.out _).2 ⟨(y.block p (lt_of_block HBP.out)).trans HBP.out, (y.block bq (lt_of_block B2.out)).trans B2.out⟩
  have HOW : Hid ((w2.drew.alloc (.cells #[.int .i64 x.k, .string ⟨x.t.toArray⟩, .int .i64 x.n, .int .i64 x.a, .int .i64 x.b, .int .i64 fr] 40)).ownsRow base 40 6 (.slice ao tk.length cp) tk.length (tkC tk)) := HX.out _ (bt XD.out (al (Below.refl _ _) _) (Nat.le_refl _))
  have HNW : Hid (∀ (j : Nat) (u : Value), [Value.int .i64 x.k, .string ⟨x.t.toArray⟩, .int .i64 x.n, .int .i64 x.a, .int .i64 x.b, .int .i64 fr][j]? = some u → (w2.drew.alloc (.cells #[.int .i64 x.k, .string ⟨x.t.toArray⟩, .int .i64 x.n, .int .i64 x.a, .int .i64 x.b, .int .i64 fr] 40)).cell? ((⟨w2.drew.heap.size, 0, none⟩ : Addr).add j) = some u) := fun j u hu => by
    have hB := heap_alloc_new w2.drew (.cells #[.int .i64 x.k, .string ⟨x.t.toArray⟩, .int .i64 x.n, .int .i64 x.a, .int .i64 x.b, .int .i64 fr] 40)
    rw [show (⟨w2.drew.heap.size, 0, none⟩ : Addr).add j = ⟨w2.drew.heap.size, 0 + j, none⟩ by unfold Addr.add; split <;> simp_all, cell_of_row _ _ _ _ _ _ hB]
    simpa using hu
  have HSW : Hid (base ≤ (w2.drew.alloc (.cells #[.int .i64 x.k, .string ⟨x.t.toArray⟩, .int .i64 x.n, .int .i64 x.a, .int .i64 x.b, .int .i64 fr] 40)).heap.size) := by
    have h1 := (al (Below.refl w2.drew.heap.size w2.drew) (.cells #[.int .i64 x.k, .string ⟨x.t.toArray⟩, .int .i64 x.n, .int .i64 x.a, .int .i64 x.b, .int .i64 fr] 40)).size
    have h2 := X2.out.size
    have h3 := XD.out.size
    unfold Hid; omega
  have HFIN : Hid (∀ (g6 cap6 : Nat) (w6 : World), w6.ownsRow base 40 6 (.slice (some ⟨g6, 0, none⟩) (tk.length + 1) cap6) (tk.length + 1) (tkC tk ++ [.int .i64 x.k, .string ⟨x.t.toArray⟩, .int .i64 x.n, .int .i64 x.a, .int .i64 x.b, .int .i64 fr]) → (w2.drew.alloc (.cells #[.int .i64 x.k, .string ⟨x.t.toArray⟩, .int .i64 x.n, .int .i64 x.a, .int .i64 x.b, .int .i64 fr] 40)).grownBy w6 (Value.slice ao tk.length cp).ownBlock → S w6 ∧ (w6.setCell ⟨p, 1, none⟩ (.slice (some ⟨g6, 0, none⟩) (tk.length + 1) cap6)).heap[p]? = some (.cells #[s0, .slice (some ⟨g6, 0, none⟩) (tk.length + 1) cap6, s2, .int .i64 fr, ad, bv] 47 (0, 0)) ∧ (w6.setCell ⟨p, 1, none⟩ (.slice (some ⟨g6, 0, none⟩) (tk.length + 1) cap6)).ownsRow base 40 6 (.slice (some ⟨g6, 0, none⟩) (tk.length + 1) cap6) (tk.length + 1) (tkC (tk ++ [{ x with p := fr }])) ∧ KpO 40 base p w (w6.setCell ⟨p, 1, none⟩ (.slice (some ⟨g6, 0, none⟩) (tk.length + 1) cap6)) ∧ w6.frozen? ⟨p, 1, none⟩ = false) := fun g6 cap6 w6 h1 h2 => by
    have xa := al (Below.refl w2.drew.heap.size w2.drew) (.cells #[.int .i64 x.k, .string ⟨x.t.toArray⟩, .int .i64 x.n, .int .i64 x.a, .int .i64 x.b, .int .i64 fr] 40)
    obtain ⟨s1, s2'⟩ := (HSE.out _).1 (HSB.out _ xa)
    have kg := kept_of_grown h2
    have hp6 := (kg.block p (lt_of_block s1) (fun e => (HPQ.out p e).1 rfl)).trans s1
    have hq6 := (kg.block bq (lt_of_block s2') (fun e => by have := (HPQ.out bq e).2.1; omega)).trans s2'
    have hw5 := bt X2.out (bt XD.out xa (Nat.le_refl _)) (Nat.le_refl _)
    have k6 : KpO 40 base p w w6 := Kept.trans_new (F := fun k => k = p ∨ base ≤ k ∧ ∃ c f, w.heap[k]? = some (.cells c 40 f)) (Kept.of_below hw5) kg (fun i hi hG => .inr ⟨(HPQ.out i hG).2.2.1, _, _, (HPQ.out i hG).2.2.2.choose_spec⟩)
    refine ⟨(HSE.out _).2 ⟨hp6, hq6⟩, by have := block_setCell' hp6 1 (.slice (some ⟨g6, 0, none⟩) (tk.length + 1) cap6); exact this, ?_, Kept.setCell k6 (p := ⟨p, 1, none⟩) (.inl rfl) _, frozen_of_row _ _ _ _ _ hp6⟩
    rw [tkC_snoc]
    refine own_kept (F := fun k => k = p) h1 ((Kept.refl (fun k => k = p) w6).setCell (p := ⟨p, 1, none⟩) rfl _) (fun k hk e => ?_)
    obtain ⟨c, hc⟩ := own_ty h1 k hk
    rw [e, hp6] at hc
    injection hc with hc
    injection hc with _ hc _
    cases hc
  clear HBP B2 X2 XD HX HB HT
  refine wp_unt (S := S) 10 (by kernel_rfl) ?_
  generalize w2.drew = wd at *
  refine UntH.take (i := 0) (some 9) rfl rfl (by kernel_rfl) (by kernel_rfl) (by kernel_rfl) (by kernel_rfl) (fun _ _ _ _ h => h) (by rfl) HS0.out ?_
  apply Exists.intro
  refine ⟨fun w' hw' => ?_, ?_⟩
  · obtain ⟨q1, q2, q3, q4, q5, q6, q7⟩ := HRD.out w' hw'
    go_simp
    first | done | rfl
  try simp only [Act.put, List.setIfInBounds_toArray, List.set_cons_zero, List.set_cons_succ]
  refine UntH.take (i := 1) (some 10) rfl rfl (by kernel_rfl) (by kernel_rfl) (by kernel_rfl) (by kernel_rfl) (fun _ _ _ _ h => h) (by rfl) HS0.out ?_
  apply Exists.intro
  refine ⟨fun w' hw' => ?_, ?_⟩
  · obtain ⟨q1, q2, q3, q4, q5, q6, q7⟩ := HRD.out w' hw'
    go_simp
    first | done | rfl
  try simp only [Act.put, List.setIfInBounds_toArray, List.set_cons_zero, List.set_cons_succ]
  refine UntH.take (i := 2) (some 11) rfl rfl (by kernel_rfl) (by kernel_rfl) (by kernel_rfl) (by kernel_rfl) (fun _ _ _ _ h => h) (by rfl) HS0.out ?_
  apply Exists.intro
  refine ⟨fun w' hw' => ?_, ?_⟩
  · obtain ⟨q1, q2, q3, q4, q5, q6, q7⟩ := HRD.out w' hw'
    go_simp
    first | done | rfl
  try simp only [Act.put, List.setIfInBounds_toArray, List.set_cons_zero, List.set_cons_succ]
  refine UntH.take (i := 3) (some 12) rfl rfl (by kernel_rfl) (by kernel_rfl) (by kernel_rfl) (by kernel_rfl) (fun _ _ _ _ h => h) (by rfl) HS0.out ?_
  apply Exists.intro
  refine ⟨fun w' hw' => ?_, ?_⟩
  · obtain ⟨q1, q2, q3, q4, q5, q6, q7⟩ := HRD.out w' hw'
    go_simp
    first | done | rfl
  try simp only [Act.put, List.setIfInBounds_toArray, List.set_cons_zero, List.set_cons_succ]
  refine UntH.take (i := 4) (some 13) rfl rfl (by kernel_rfl) (by kernel_rfl) (by kernel_rfl) (by kernel_rfl) (fun _ _ _ _ h => h) (by rfl) HS0.out ?_
  apply Exists.intro
  refine ⟨fun w' hw' => ?_, ?_⟩
  · obtain ⟨q1, q2, q3, q4, q5, q6, q7⟩ := HRD.out w' hw'
    go_simp
    first | done | rfl
  try simp only [Act.put, List.setIfInBounds_toArray, List.set_cons_zero, List.set_cons_succ]
  refine UntH.take (i := 5) (some 14) rfl rfl (by kernel_rfl) (by kernel_rfl) (by kernel_rfl) (by kernel_rfl) (fun _ _ _ _ h => h) (by rfl) HS0.out ?_
  apply Exists.intro
  refine ⟨fun w' hw' => ?_, ?_⟩
  · obtain ⟨q1, q2, q3, q4, q5, q6, q7⟩ := HRD.out w' hw'
    go_simp
    first | done | rfl
  try simp only [Act.put, List.setIfInBounds_toArray, List.set_cons_zero, List.set_cons_succ]
  refine UntH.step (i := 6) (by kernel_rfl) rfl (fun K hK => ?_)
  go_simp
  refine hK _ _ (HSB.out _ (al (Below.refl _ _) _)) ?_
  clear hK K
  refine UntH.step (i := 7) (by kernel_rfl) rfl (fun K hK => ?_)
  refine step_append_lies _ (by rfl) (.tmp 13) (.tmp 15) 26 (by rfl) base 40 i40 (.agg #[.int .i64 0, .string ⟨#[]⟩, .int .i64 0, .int .i64 0, .int .i64 0, .int .i64 0]) 6 56 Tryz.underlying26 hi40 hz0 hz1 hz2 rfl (by decide) _ tk.length (tkC tk) (by rfl) HOW.out ⟨wd.heap.size, 0, none⟩ 1 1 [.int .i64 x.k, .string ⟨x.t.toArray⟩, .int .i64 x.n, .int .i64 x.a, .int .i64 x.b, .int .i64 fr] (by rfl) (by rfl) HNW.out (by simp [Value.oneCell']) (by decide) (by unfold maxLen; omega) (by omega) HSW.out _ rfl ?_
  intro g6 cap6 w6 h1 h2 h3 h4
  obtain ⟨f1, f2, f3, f4, f5⟩ := HFIN.out g6 cap6 w6 h1 h2
  refine hK _ _ f1 ?_
  clear hK K h1 h2 h3 h4
  have HS6 := hide f1
  have F2 := hide f2
  have F3 := hide f3
  have F4 := hide f4
  clear f1 f2 f3 f4
  refine UntH.take (i := 8) (some 17) rfl rfl (by kernel_rfl) (by kernel_rfl) (by kernel_rfl) (by kernel_rfl) (fun _ _ _ _ h => h) (by rfl) HS6.out ?_
  apply Exists.intro
  refine ⟨fun w' hw' => ?_, ?_⟩
  · obtain ⟨q1, q2, q3, q4, q5, q6, q7⟩ := HRD.out w' hw'
    go_simp
    first | done | rfl
  try simp only [Act.put, List.setIfInBounds_toArray]
  refine UntH.take (i := 9) (some 18) rfl rfl (by kernel_rfl) (by kernel_rfl) (by kernel_rfl) (by kernel_rfl) (fun _ _ _ _ h => h) (by rfl) HS6.out ?_
  apply Exists.intro
  refine ⟨fun w' hw' => ?_, ?_⟩
  · obtain ⟨q1, q2, q3, q4, q5, q6, q7⟩ := HRD.out w' hw'
    go_simp
    first | done | rfl
  try simp only [Act.put]
  obtain ⟨z1, -⟩ := HRD.out _ HS6.out
  refine UntH.last (by kernel_rfl) rfl (by kernel_rfl) (by kernel_rfl) (fun K hK => ?_)
  go_simp
  refine hK _ _ ?_
  clear hK K
  go_wp2
  go_end0
  exact ⟨rfl, ⟨_, F2.out, F3.out⟩, F4.out⟩
end Go.Proofs.YtkpdbbbeagnjpaaGreatDoor
