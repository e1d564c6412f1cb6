/-
  sayable of a condition that is one test, where it is. Condition: as in the texts before.
-/
import Derived.Test.YthgikaklcglpiaaGreatDoorP17
import Derived.Test.YthgikaklcglpiaaGreatDoorP04
namespace Go.Proofs.YthgikaklcglpiaaGreatDoor.L9
open Go.RowKit Go.Lib

theorem CtAt.ofk {w : World} {b0 : Nat} {c : CT} {vs : List Value} {bs : List Nat} (h : CtAt w b0 c vs bs) : ∀ k ∈ bs, b0 ≤ k ∧ k < w.heap.size := CtAt.lt h
set_option maxRecDepth 100000 in
set_option maxHeartbeats 4000000 in
theorem sayable_ok {w : World} {b0 : Nat} {c : CT} {vs : List Value} {bs : List Nat} {y : WS} (hc : CtAt w b0 c vs bs) (hnd : bs.Nodup) (hb0 : b0 ≤ w.heap.size) (ho : CondOk c) (hx : polW [⟨2, [97], c, 0⟩] ([], true) = some y) :
    Calls Tryz.prog 62 #[.agg vs.toArray] w fun e w' => e = .returned (.bool true) ∧ Below w.heap.size w w' := by
  have HC := hide hc
  obtain ⟨a3, c3, a4, c4, a5, c5, a6, c6, rfl⟩ := hc.eight
  have X1 := hide (show Below w.heap.size w (w.alloc (.cells #[.int .i64 c.k, .string ⟨c.nm.toArray⟩, .string ⟨c.tx.toArray⟩, .slice a3 c.pre.length c3, .slice a4 c.sp.length c4, .slice a5 c.ns.length c5, .slice a6 c.kids.length c6, .int .i64 c.p] 27)) from al (Below.refl _ _) _)
  have HND := hide hnd
  have HB0 := hide hb0
  have HR : Hid (∀ (V : World) (S : Nat), Below w.heap.size w V → w.heap.size ≤ S → V.heap[S]? = some (.cells #[.int .i64 2, .string ⟨#[97]⟩, .int .i64 c.k, .string ⟨c.nm.toArray⟩, .string ⟨c.tx.toArray⟩, .slice a3 c.pre.length c3, .slice a4 c.sp.length c4, .slice a5 c.ns.length c5, .slice a6 c.kids.length c6, .int .i64 c.p, .int .i64 0] 71 (0, 0)) → Calls Tryz.prog 54 #[.agg #[.slice (some ⟨S, 0, none⟩) 1 1]] V fun e w' => e = .returned (.bool true) ∧ Below V.heap.size V w') := fun V S hV hS hblk => by
    have hcv := HC.out.below hV
    refine right_ok (b0 := b0) (L := [⟨2, [97], c, 0⟩]) (y := y) (by simp) (fun x hx => by rw [List.mem_singleton.1 hx]; exact ho) (cs := [.int .i64 2, .string ⟨#[97]⟩, .int .i64 c.k, .string ⟨c.nm.toArray⟩, .string ⟨c.tx.toArray⟩, .slice a3 c.pre.length c3, .slice a4 c.sp.length c4, .slice a5 c.ns.length c5, .slice a6 c.kids.length c6, .int .i64 c.p, .int .i64 0]) (bs := bs ++ []) ⟨?_, ?_, ?_⟩ hx
    · exact ⟨rfl, .inr ⟨S, 1, _, rfl, Nat.le_trans HB0.out hS, hblk, Nat.le_refl _, by unfold maxLen; omega, rfl, rfl⟩⟩
    · exact ⟨_, bs, [], [], by simp [itV], rfl, hcv, rfl, rfl⟩
    · rw [List.append_nil]
      show (S :: bs).Nodup
      refine List.nodup_cons.2 ⟨fun h => ?_, HND.out⟩
      have := (CtAt.lt HC.out S h).2
      omega
  clear hc hnd hb0 ho hx HC HND HB0
  generalize c.k = ck at *
  generalize c.nm = cnm at *
  generalize c.tx = ctx at *
  generalize c.p = cp at *
  generalize c.pre.length = npre at *
  generalize c.sp.length = nsp at *
  generalize c.ns.length = nns at *
  generalize c.kids.length = nk at *
  obtain ⟨P, hP⟩ : ∃ P, P = w.heap.size := ⟨_, rfl⟩
  have B1 := hide (heap_alloc_new w (.cells #[.int .i64 ck, .string ⟨cnm.toArray⟩, .string ⟨ctx.toArray⟩, .slice a3 npre c3, .slice a4 nsp c4, .slice a5 nns c5, .slice a6 nk c6, .int .i64 cp] 27))
  go_enter Tryz.func62, Tryz.ntmps62
  go_upto_region 1 with fail
  rw [← hP] at B1 ⊢
  clear hP
  generalize w.alloc (.cells #[.int .i64 ck, .string ⟨cnm.toArray⟩, .string ⟨ctx.toArray⟩, .slice a3 npre c3, .slice a4 nsp c4, .slice a5 nns c5, .slice a6 nk c6, .int .i64 cp] 27) = W at *
  obtain ⟨q0, q1, q2, q3, q4, q5, q6, q7⟩ := ld8 B1.out
  have X2 := hide (bt X1.out (show Below W.heap.size W (W.alloc (.cells #[.int .i64 2, .string ⟨#[97]⟩, .int .i64 ck, .string ⟨cnm.toArray⟩, .string ⟨ctx.toArray⟩, .slice a3 npre c3, .slice a4 nsp c4, .slice a5 nns c5, .slice a6 nk c6, .int .i64 cp, .int .i64 0] 71)) from al (Below.refl _ _) _) (Nat.le_refl _))
  have B2 := hide (heap_alloc_new W (.cells #[.int .i64 2, .string ⟨#[97]⟩, .int .i64 ck, .string ⟨cnm.toArray⟩, .string ⟨ctx.toArray⟩, .slice a3 npre c3, .slice a4 nsp c4, .slice a5 nns c5, .slice a6 nk c6, .int .i64 cp, .int .i64 0] 71))
  obtain ⟨Q, hQ⟩ : ∃ Q, Q = W.heap.size := ⟨_, rfl⟩
  go_upto_region 2 with fail
  clear q0 q1 q2 q3 q4 q5 q6 q7 B1
  rw [← hQ] at B2 ⊢
  clear hQ
  generalize W.alloc (.cells #[.int .i64 2, .string ⟨#[97]⟩, .int .i64 ck, .string ⟨cnm.toArray⟩, .string ⟨ctx.toArray⟩, .slice a3 npre c3, .slice a4 nsp c4, .slice a5 nns c5, .slice a6 nk c6, .int .i64 cp, .int .i64 0] 71) = W2 at *
  obtain ⟨q0, q1, q2, q3, q4, q5, q6, q7, q8, q9, q10⟩ := ld11 B2.out
  have X3 := hide (bt X2.out (show Below W2.heap.size W2 (W2.alloc (.cells #[.int .i64 2, .string ⟨#[97]⟩, .int .i64 ck, .string ⟨cnm.toArray⟩, .string ⟨ctx.toArray⟩, .slice a3 npre c3, .slice a4 nsp c4, .slice a5 nns c5, .slice a6 nk c6, .int .i64 cp, .int .i64 0] 71)) from al (Below.refl _ _) _) (Nat.le_refl _))
  have HRR := hide (HR.out _ W2.heap.size X3.out X2.out.size (heap_alloc_new W2 _))
  go_wp2_with (go_at_call 54; refine HRR.out.mono ?_; rintro e w3 ⟨rfl, x3⟩; have X4 := hide (bt X3.out x3 (Nat.le_refl _)); clear x3)
  go_ret
  exact ⟨rfl, X4.out⟩
end Go.Proofs.YthgikaklcglpiaaGreatDoor.L9
/-
  rightSet and rightPiece by their contracts. Condition: a list is no longer than a process can hold.
-/
namespace Go.Proofs.YthgikaklcglpiaaGreatDoor.L5
open Go.RowKit Go.Lib

/-- A set that a piece may have. -/
def RS (L : List Spn) : Prop := IsSet L ∧ L ≠ [] ∧ ∀ s ∈ L, 32 ≤ s.1 ∧ s.2 ≤ 126
theorem isSet_first {L : List Spn} (h : IsSet L) {x : Int} (hx : x ≤ (L.getD 0 (0, 0)).1) : ∀ s ∈ L, x ≤ s.1 := by
  cases L with
  | nil => intro s hs; cases hs
  | cons t L =>
    intro s hs
    simp only [List.getD_cons_zero] at hx
    rcases List.mem_cons.1 hs with rfl | hs
    · exact hx
    · have h1 := (List.pairwise_cons.1 h.2).1 s hs
      have h2 := h.head
      unfold Bnd at h2
      omega
theorem isSet_last {L : List Spn} (h : IsSet L) {x : Int} (hx : (L.getD (L.length - 1) (0, 0)).2 ≤ x) : ∀ s ∈ L, s.2 ≤ x := by
  intro s hs
  obtain ⟨i, hi, rfl⟩ := List.getElem_of_mem hs
  rw [List.getD_eq_getElem?_getD, List.getElem?_eq_getElem (by omega)] at hx
  simp only [Option.getD_some] at hx
  by_cases he : i = L.length - 1
  · subst he; exact hx
  · have h1 := (List.pairwise_iff_getElem.1 h.2) i (L.length - 1) hi (by omega) (by omega)
    have h2 := h.1 _ (List.getElem_mem (show L.length - 1 < L.length by omega))
    unfold Bnd at h2
    omega
theorem RS_iff {L : List Spn} (h : IsSet L) (h0 : 0 < L.length) : RS L ↔ 32 ≤ (L.getD 0 (0, 0)).1 ∧ (L.getD (L.length - 1) (0, 0)).2 ≤ 126 := by
  constructor
  · intro ⟨_, _, h3⟩
    have a1 := (h3 _ (List.getElem_mem h0)).1
    have a2 := (h3 _ (List.getElem_mem (show L.length - 1 < L.length by omega))).2
    rw [List.getD_eq_getElem?_getD, List.getElem?_eq_getElem h0, List.getD_eq_getElem?_getD, List.getElem?_eq_getElem (show L.length - 1 < L.length by omega)]
    exact ⟨a1, a2⟩
  · intro ⟨h1, h2⟩
    exact ⟨h, fun e => by rw [e] at h0; exact absurd h0 (Nat.lt_irrefl _), fun s hs => ⟨isSet_first h h1 s hs, isSet_last h h2 s hs⟩⟩
/-- True just if. -/
def YesNo (p : Prop) (e : Ending) : Prop := (p ∧ e = .returned (.bool true)) ∨ (¬ p ∧ e = .returned (.bool false))
theorem YesNo.yes {p : Prop} (h : p) {e : Ending} (he : e = .returned (.bool true)) : YesNo p e := .inl ⟨h, he⟩
theorem YesNo.no {p : Prop} (h : ¬ p) {e : Ending} (he : e = .returned (.bool false)) : YesNo p e := .inr ⟨h, he⟩
set_option maxRecDepth 100000 in
set_option maxHeartbeats 2000000 in
theorem rightSet_any (so : Option Addr) (cap : Nat) (L : List Spn) (w : World) (hl : L.length ≤ 140737488351232) (hat : SpAt w so L) :
    Calls Tryz.prog 219 #[.slice so L.length cap] w fun e w' => YesNo (RS L) e ∧ Below w.heap.size w w' := by
  have hr := right_any so cap L w hl hat
  by_cases hs : IsSet L
  · rw [decide_eq_true hs] at hr
    by_cases h0 : 0 < L.length
    · obtain ⟨b, off, rfl, hb, hc⟩ := hat.get h0
      have c0 := (hc 0 h0).1
      have c1 := (hc (L.length - 1) (by omega)).2
      simp only [Nat.zero_mul, Nat.add_zero] at c0
      have hRS := RS_iff hs h0
      have h0' : (0 : Int) < (L.length : Int) := by omega
      have hw : IntKind.i64.wrap ((L.length : Int) - 1) = ((L.length - 1 : Nat) : Int) := by simp [IntKind.wrap, IntKind.bits, IntKind.signed]; omega
      have hlt : ((L.length - 1 : Nat) : Int) < (L.length : Int) := by omega
      have HR := hide hr
      obtain ⟨n1, hn1⟩ : ∃ n1, Hid (n1 = L.length - 1) := ⟨_, rfl⟩
      rw [← hn1.out] at c1 hRS hw hlt
      have HRS := hide hRS
      generalize (L.getD 0 (0, 0)).1 = x at *
      generalize (L.getD n1 (0, 0)).2 = y at *
      clear hr hc hat hRS
      by_cases h32 : (32 : Int) ≤ x
      · by_cases h126 : y ≤ 126
        · have HY : Hid (RS L) := HRS.out.2 ⟨h32, h126⟩
          go_enter Tryz.func219, Tryz.ntmps219
          go_wp2_with (go_at_call 181; refine HR.out.mono ?_; rintro e w2 ⟨rfl, x2⟩; have X2 := hide x2; have d0 := (x2.cell (p := ⟨b, off, none⟩) hb).trans c0; have d1 := (x2.cell (p := ⟨b, off + n1 * 2 + 1, none⟩) hb).trans c1; clear x2)
          go_ret
          exact ⟨.yes HY.out rfl, X2.out⟩
        · have HN : Hid (¬ RS L) := fun h => h126 (HRS.out.1 h).2
          go_enter Tryz.func219, Tryz.ntmps219
          go_wp2_with (go_at_call 181; refine HR.out.mono ?_; rintro e w2 ⟨rfl, x2⟩; have X2 := hide x2; have d0 := (x2.cell (p := ⟨b, off, none⟩) hb).trans c0; have d1 := (x2.cell (p := ⟨b, off + n1 * 2 + 1, none⟩) hb).trans c1; clear x2)
          go_ret
          exact ⟨.no HN.out (show Ending.returned (Value.bool (decide (y ≤ 126))) = _ by rw [decide_eq_false (by omega)]), X2.out⟩
      · have HN : Hid (¬ RS L) := fun h => h32 (HRS.out.1 h).1
        go_enter Tryz.func219, Tryz.ntmps219
        go_wp2_with (go_at_call 181; refine HR.out.mono ?_; rintro e w2 ⟨rfl, x2⟩; have X2 := hide x2; have d0 := (x2.cell (p := ⟨b, off, none⟩) hb).trans c0; have d1 := (x2.cell (p := ⟨b, off + n1 * 2 + 1, none⟩) hb).trans c1; clear x2)
        go_ret
        exact ⟨.no HN.out rfl, X2.out⟩
    · have hn : ¬ (0 : Int) < (L.length : Int) := by omega
      have HN : Hid (¬ RS L) := fun h => h.2.1 (List.eq_nil_of_length_eq_zero (by omega))
      clear hat
      go_enter Tryz.func219, Tryz.ntmps219
      go_wp2_with (go_at_call 181; refine hr.mono ?_; rintro e w2 ⟨rfl, x2⟩; have X2 := hide x2; clear x2)
      go_ret
      exact ⟨.no HN.out rfl, X2.out⟩
  · rw [decide_eq_false hs] at hr
    have HN : Hid (¬ RS L) := fun h => hs h.1
    clear hat
    go_enter Tryz.func219, Tryz.ntmps219
    go_wp2_with (go_at_call 181; refine hr.mono ?_; rintro e w2 ⟨rfl, x2⟩; have X2 := hide x2; clear x2)
    go_ret
    exact ⟨.no HN.out rfl, X2.out⟩
/-- By kinds. -/
theorem Rp_one {b : Int} {no : Bool} {S : List Spn} : Rp ⟨1, b, no, S⟩ ↔ 32 ≤ b ∧ b ≤ 126 ∧ no = false ∧ S = [] := by
  unfold Rp
  constructor
  · intro h
    rcases h with h | h | h
    · exact h.2
    · rcases h.1 with h | h | h
      · exact absurd (show (1 : Int) = 2 from h) (by decide)
      · exact absurd (show (1 : Int) = 4 from h) (by decide)
      · exact absurd (show (1 : Int) = 5 from h) (by decide)
    · exact absurd (show (1 : Int) = 3 from h.1) (by decide)
  · exact fun h => .inl ⟨rfl, h⟩
theorem Rp_plain {k b : Int} {no : Bool} {S : List Spn} (hk : k = 2 ∨ k = 4 ∨ k = 5) : Rp ⟨k, b, no, S⟩ ↔ b = 0 ∧ no = false ∧ S = [] := by
  unfold Rp
  constructor
  · intro h
    rcases h with h | h | h
    · have h1 : k = 1 := h.1
      omega
    · exact h.2
    · have h1 : k = 3 := h.1
      omega
  · exact fun h => .inr (.inl ⟨hk, h⟩)
theorem Rp_set {b : Int} {no : Bool} {S : List Spn} : Rp ⟨3, b, no, S⟩ ↔ b = 0 ∧ RS S := by
  unfold Rp
  constructor
  · intro h
    rcases h with h | h | h
    · exact absurd (show (3 : Int) = 1 from h.1) (by decide)
    · rcases h.1 with h | h | h
      · exact absurd (show (3 : Int) = 2 from h) (by decide)
      · exact absurd (show (3 : Int) = 4 from h) (by decide)
      · exact absurd (show (3 : Int) = 5 from h) (by decide)
    · exact ⟨h.2.1, h.2.2⟩
  · exact fun h => .inr (.inr ⟨rfl, h.1, h.2⟩)
theorem Rp_other {k b : Int} {no : Bool} {S : List Spn} (h1 : ¬ k = 1) (h2 : ¬ k = 2) (h3 : ¬ k = 3) (h4 : ¬ k = 4) (h5 : ¬ k = 5) : ¬ Rp ⟨k, b, no, S⟩ := by
  unfold Rp
  intro h
  rcases h with h | h | h
  · exact h1 h.1
  · rcases h.1 with h | h | h
    · exact h2 h
    · exact h4 h
    · exact h5 h
  · exact h3 h.1
set_option maxRecDepth 100000 in
set_option maxHeartbeats 4000000 in
theorem rightPiece_any (kd kb : Int) (kn : Bool) (ks : Option Addr) (kc : Nat) (S : List Spn) (w : World) (hl : S.length ≤ 140737488351232) (hat : SpAt w ks S) :
    Calls Tryz.prog 161 #[.agg #[.int .i64 kd, .int .i64 kb, .bool kn, .slice ks S.length kc]] w fun e w' => YesNo (Rp ⟨kd, kb, kn, S⟩) e ∧ Below w.heap.size w w' := by
  by_cases h1 : kd = 1
  · subst h1
    clear hat
    by_cases a1 : (32 : Int) ≤ kb
    · by_cases a2 : kb ≤ 126
      · cases kn with
        | true =>
          have HN : Hid (¬ Rp ⟨1, kb, true, S⟩) := fun h => by have := (Rp_one.1 h).2.2.1; cases this
          go_enter Tryz.func161, Tryz.ntmps161
          go_wp2
          go_ret
          exact ⟨.no HN.out rfl, al (Below.refl _ _) _⟩
        | false =>
          by_cases a4 : S = []
          · have HY : Hid (Rp ⟨1, kb, false, S⟩) := Rp_one.2 ⟨a1, a2, rfl, a4⟩
            subst a4
            simp only [List.length_nil]
            go_enter Tryz.func161, Tryz.ntmps161
            go_wp2
            go_ret
            exact ⟨.yes HY.out rfl, al (Below.refl _ _) _⟩
          · have HN : Hid (¬ Rp ⟨1, kb, false, S⟩) := fun h => a4 (Rp_one.1 h).2.2.2
            have a5 : ¬ ((S.length : Nat) : Int) = 0 := fun h => a4 (List.eq_nil_of_length_eq_zero (by omega))
            go_enter Tryz.func161, Tryz.ntmps161
            go_wp2
            go_ret
            exact ⟨.no HN.out (show Ending.returned (Value.bool (((S.length : Nat) : Int) == 0)) = _ by rw [beq_eq_false_iff_ne.2 a5]), al (Below.refl _ _) _⟩
      · have HN : Hid (¬ Rp ⟨1, kb, kn, S⟩) := fun h => a2 (Rp_one.1 h).2.1
        go_enter Tryz.func161, Tryz.ntmps161
        go_wp2
        go_ret
        exact ⟨.no HN.out rfl, al (Below.refl _ _) _⟩
    · have HN : Hid (¬ Rp ⟨1, kb, kn, S⟩) := fun h => a1 (Rp_one.1 h).1
      go_enter Tryz.func161, Tryz.ntmps161
      go_wp2
      go_ret
      exact ⟨.no HN.out rfl, al (Below.refl _ _) _⟩
  · by_cases h2 : kd = 2
    · subst h2
      clear hat
      by_cases a1 : kb = 0
      · subst a1
        cases kn with
        | true =>
          have HN : Hid (¬ Rp ⟨2, 0, true, S⟩) := fun h => by have := ((Rp_plain (by decide)).1 h).2.1; cases this
          go_enter Tryz.func161, Tryz.ntmps161
          go_wp2
          go_ret
          exact ⟨.no HN.out rfl, al (Below.refl _ _) _⟩
        | false =>
          by_cases a4 : S = []
          · have HY : Hid (Rp ⟨2, 0, false, S⟩) := (Rp_plain (by decide)).2 ⟨rfl, rfl, a4⟩
            subst a4
            simp only [List.length_nil]
            go_enter Tryz.func161, Tryz.ntmps161
            go_wp2
            go_ret
            exact ⟨.yes HY.out rfl, al (Below.refl _ _) _⟩
          · have HN : Hid (¬ Rp ⟨2, 0, false, S⟩) := fun h => a4 ((Rp_plain (by decide)).1 h).2.2
            have a5 : ¬ ((S.length : Nat) : Int) = 0 := fun h => a4 (List.eq_nil_of_length_eq_zero (by omega))
            go_enter Tryz.func161, Tryz.ntmps161
            go_wp2
            go_ret
            exact ⟨.no HN.out (show Ending.returned (Value.bool (((S.length : Nat) : Int) == 0)) = _ by rw [beq_eq_false_iff_ne.2 a5]), al (Below.refl _ _) _⟩
      · have HN : Hid (¬ Rp ⟨2, kb, kn, S⟩) := fun h => a1 ((Rp_plain (by decide)).1 h).1
        go_enter Tryz.func161, Tryz.ntmps161
        go_wp2
        go_ret
        exact ⟨.no HN.out rfl, al (Below.refl _ _) _⟩
    · by_cases h4 : kd = 4
      · subst h4
        clear hat
        by_cases a1 : kb = 0
        · subst a1
          cases kn with
          | true =>
            have HN : Hid (¬ Rp ⟨4, 0, true, S⟩) := fun h => by have := ((Rp_plain (by decide)).1 h).2.1; cases this
            go_enter Tryz.func161, Tryz.ntmps161
            go_wp2
            go_ret
            exact ⟨.no HN.out rfl, al (Below.refl _ _) _⟩
          | false =>
            by_cases a4 : S = []
            · have HY : Hid (Rp ⟨4, 0, false, S⟩) := (Rp_plain (by decide)).2 ⟨rfl, rfl, a4⟩
              subst a4
              simp only [List.length_nil]
              go_enter Tryz.func161, Tryz.ntmps161
              go_wp2
              go_ret
              exact ⟨.yes HY.out rfl, al (Below.refl _ _) _⟩
            · have HN : Hid (¬ Rp ⟨4, 0, false, S⟩) := fun h => a4 ((Rp_plain (by decide)).1 h).2.2
              have a5 : ¬ ((S.length : Nat) : Int) = 0 := fun h => a4 (List.eq_nil_of_length_eq_zero (by omega))
              go_enter Tryz.func161, Tryz.ntmps161
              go_wp2
              go_ret
              exact ⟨.no HN.out (show Ending.returned (Value.bool (((S.length : Nat) : Int) == 0)) = _ by rw [beq_eq_false_iff_ne.2 a5]), al (Below.refl _ _) _⟩
        · have HN : Hid (¬ Rp ⟨4, kb, kn, S⟩) := fun h => a1 ((Rp_plain (by decide)).1 h).1
          go_enter Tryz.func161, Tryz.ntmps161
          go_wp2
          go_ret
          exact ⟨.no HN.out rfl, al (Below.refl _ _) _⟩
      · by_cases h5 : kd = 5
        · subst h5
          clear hat
          by_cases a1 : kb = 0
          · subst a1
            cases kn with
            | true =>
              have HN : Hid (¬ Rp ⟨5, 0, true, S⟩) := fun h => by have := ((Rp_plain (by decide)).1 h).2.1; cases this
              go_enter Tryz.func161, Tryz.ntmps161
              go_wp2
              go_ret
              exact ⟨.no HN.out rfl, al (Below.refl _ _) _⟩
            | false =>
              by_cases a4 : S = []
              · have HY : Hid (Rp ⟨5, 0, false, S⟩) := (Rp_plain (by decide)).2 ⟨rfl, rfl, a4⟩
                subst a4
                simp only [List.length_nil]
                go_enter Tryz.func161, Tryz.ntmps161
                go_wp2
                go_ret
                exact ⟨.yes HY.out rfl, al (Below.refl _ _) _⟩
              · have HN : Hid (¬ Rp ⟨5, 0, false, S⟩) := fun h => a4 ((Rp_plain (by decide)).1 h).2.2
                have a5 : ¬ ((S.length : Nat) : Int) = 0 := fun h => a4 (List.eq_nil_of_length_eq_zero (by omega))
                go_enter Tryz.func161, Tryz.ntmps161
                go_wp2
                go_ret
                exact ⟨.no HN.out (show Ending.returned (Value.bool (((S.length : Nat) : Int) == 0)) = _ by rw [beq_eq_false_iff_ne.2 a5]), al (Below.refl _ _) _⟩
          · have HN : Hid (¬ Rp ⟨5, kb, kn, S⟩) := fun h => a1 ((Rp_plain (by decide)).1 h).1
            go_enter Tryz.func161, Tryz.ntmps161
            go_wp2
            go_ret
            exact ⟨.no HN.out rfl, al (Below.refl _ _) _⟩
        · by_cases h3 : kd = 3
          · subst h3
            by_cases a1 : kb = 0
            · subst a1
              have HS := hide (fun W (x : Below w.heap.size w W) => rightSet_any ks kc S W hl (hat.below x))
              have X1 := hide (al (Below.refl w.heap.size w) (.cells #[.int .i64 3, .int .i64 0, .bool kn, .slice ks S.length kc] 83))
              clear hat
              go_enter Tryz.func161, Tryz.ntmps161
              go_wp2_with (fail)
              refine (HS.out _ X1.out).mono ?_
              rintro e w2 ⟨h2, x2⟩
              have X2 := hide (bt X1.out x2 (Nat.le_refl _))
              clear x2
              rcases h2 with ⟨hp, rfl⟩ | ⟨hp, rfl⟩
              · have HY : Hid (Rp ⟨3, 0, kn, S⟩) := Rp_set.2 ⟨rfl, hp⟩
                clear hp
                go_wp2
                go_ret
                exact ⟨.yes HY.out rfl, X2.out⟩
              · have HN : Hid (¬ Rp ⟨3, 0, kn, S⟩) := fun h => hp (Rp_set.1 h).2
                clear hp
                go_wp2
                go_ret
                exact ⟨.no HN.out rfl, X2.out⟩
            · have HN : Hid (¬ Rp ⟨3, kb, kn, S⟩) := fun h => a1 (Rp_set.1 h).1
              clear hat
              go_enter Tryz.func161, Tryz.ntmps161
              go_wp2
              go_ret
              exact ⟨.no HN.out rfl, al (Below.refl _ _) _⟩
          · have HN : Hid (¬ Rp ⟨kd, kb, kn, S⟩) := Rp_other h1 h2 h3 h4 h5
            clear hat
            go_enter Tryz.func161, Tryz.ntmps161
            go_wp2
            go_ret
            exact ⟨.no HN.out rfl, al (Below.refl _ _) _⟩
end Go.Proofs.YthgikaklcglpiaaGreatDoor.L5
