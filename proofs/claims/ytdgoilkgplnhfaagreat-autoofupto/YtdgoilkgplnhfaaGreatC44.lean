/-
  The document's in, Has and Size by their contracts: they say what the program's say. Condition: a list is no longer than a process can hold.
-/
import Derived.Test.YtdgoilkgplnhfaaGreatC43
import Derived.Deep.OwnRows
set_option maxRecDepth 100000
set_option maxHeartbeats 16000000
namespace Go.Proofs.YtdgoilkgplnhfaaGreat
open Go.RowKit Go.Lib
theorem in_says {L : List Spn} (h : IsSet L) (n : Int) (m : Nat) (hm : m ≤ L.length) (h1 : ∀ i, i < m → (L.getD i (0, 0)).2 < n) (h2 : ∀ i, m ≤ i → i < L.length → n ≤ (L.getD i (0, 0)).2) : memB n L = (decide (m < L.length) && decide ((L.getD m (0, 0)).1 ≤ n)) := by
 rw [Bool.eq_iff_iff]
 simp only [Bool.and_eq_true, decide_eq_true_eq]
 constructor
 · intro hb
   obtain ⟨s, hs, a1, a2⟩ := (memB_iff n L).1 hb
   obtain ⟨i, hi, rfl⟩ := List.getElem_of_mem hs
   have e : L.getD i (0, 0) = L[i] := by simp [List.getD_eq_getElem?_getD, hi]
   have him : m ≤ i := by
    rcases Nat.lt_or_ge i m with hlt | hge
    · have := h1 i hlt; rw [e] at this; omega
    · exact hge
   refine ⟨by omega, ?_⟩
   rcases Nat.eq_or_lt_of_le him with heq | hlt
   · rw [heq, e]; exact a1
   · have hml : m < L.length := by omega
     have := h2 m (Nat.le_refl _) hml
     have hp := List.pairwise_iff_getElem.1 h.2 m i hml hi hlt
     have em : L.getD m (0, 0) = L[m] := by simp [List.getD_eq_getElem?_getD, hml]
     rw [em] at this
     omega
 · rintro ⟨hml, hlo⟩
   have em : L.getD m (0, 0) = L[m] := by simp [List.getD_eq_getElem?_getD, hml]
   have := h2 m (Nat.le_refl _) hml
   rw [em] at this hlo
   exact (memB_iff n L).2 ⟨L[m], List.getElem_mem hml, hlo, this⟩
theorem set_mono {L : List Spn} (h : IsSet L) {i j : Nat} (hij : i ≤ j) (hj : j < L.length) : (L.getD i (0, 0)).2 ≤ (L.getD j (0, 0)).2 := by
 rcases Nat.eq_or_lt_of_le hij with rfl | hlt
 · exact Int.le_refl _
 · have hi : i < L.length := by omega
   have hp := List.pairwise_iff_getElem.1 h.2 i j hi hj hlt
   have hb := h.1 L[j] (List.getElem_mem hj)
   unfold Bnd at hb
   simp only [List.getD_eq_getElem?_getD, hi, hj, List.getElem?_eq_getElem, Option.getD_some]
   omega
theorem in_any (ao : Option Addr) (cap : Nat) (L : List Spn) (n : Int) (w : World) (hl : L.length ≤ 140737488351232) (hs : IsSet L) (hat : SpAt w ao L) :
 Calls Tryz.prog 142 #[.slice ao L.length cap, .int .i64 n] w fun e w' => e = .returned (.bool (memB n L)) ∧ Below w.heap.size w w' := by
 go_enter Tryz.func142, Tryz.ntmps142
 go_wp2
 go_loopw [5, 6] (fun f t wr => ∃ a b : Nat, a ≤ b ∧ b ≤ L.length ∧ f = .int .i64 a ∧ t = .int .i64 b ∧ Hid (∀ i, i < a → (L.getD i (0, 0)).2 < n) ∧ Hid (∀ i, b ≤ i → i < L.length → n ≤ (L.getD i (0, 0)).2) ∧ Below w.heap.size w wr) (fun f t _ => (intOf t).toNat - (intOf f).toNat)
 case atStart => exact ⟨0, L.length, Nat.zero_le _, Nat.le_refl _, rfl, rfl, fun i hi => absurd hi (by omega), fun i h1 h2 => absurd h1 (by omega), Below.refl _ _⟩
 case round =>
  obtain ⟨a, b, hab, hbl, rfl, rfl, h1, h2, hq⟩ := hrel
  have HQ := hide hq
  clear hq
  by_cases hlt : a < b
  · obtain ⟨m, hm⟩ : ∃ m, m = (a + b) / 2 := ⟨_, rfl⟩
    have hma : a ≤ m := by omega
    have hmb : m < b := by omega
    obtain ⟨bb, off, rfl, hb, hc⟩ := hat.get (i := m) (by omega)
    have c2 := ((hc m (by omega)).below HQ.out hb).2
    have hq2 : ((a : Int) + (b : Int)) / 2 = (m : Int) := by omega
    have hmi : (m : Int) < (L.length : Int) := by omega
    have HM := hide (fun i (hi : i ≤ m) => set_mono hs hi (show m < L.length by omega))
    have HM2 := hide (fun i (hi : m ≤ i) (hl : i < L.length) => set_mono hs hi hl)
    obtain ⟨z, hz⟩ : ∃ z, z = L.getD m (0, 0) := ⟨_, rfl⟩
    rw [← hz] at c2
    have HZ := hide hz
    clear hc hat hm hz
    by_cases hn : z.2 < n
    · go_wp2
      go_roundw
      case rel => exact ⟨m + 1, b, by omega, hbl, by go_num, rfl, fun i hi => by have := HM.out i (by omega); rw [← HZ.out] at this; omega, h2.out, HQ.out⟩
      case measure => simp [intOf]; omega
    · go_wp2
      go_roundw
      case rel => exact ⟨a, m, hma, by omega, by first | rfl | go_num, by first | rfl | go_num, h1.out, fun i hi hl => by have := HM2.out i hi hl; rw [← HZ.out] at this; omega, HQ.out⟩
      case measure => simp [intOf]; omega
  · have h8 : a = b := by omega
    subst h8
    have hsay := in_says hs n a hbl h1.out h2.out
    by_cases hal : a < L.length
    · obtain ⟨bb, off, rfl, hb, hc⟩ := hat.get hal
      have c1 := ((hc a hal).below HQ.out hb).1
      have hai : (a : Int) < (L.length : Int) := by omega
      obtain ⟨z, hz⟩ : ∃ z, z = L.getD a (0, 0) := ⟨_, rfl⟩
      rw [← hz] at c1 hsay
      clear hc hat hz
      by_cases z1 : z.1 ≤ n
      · rw [decide_eq_true hal, decide_eq_true z1] at hsay
        have HS := hide hsay
        clear hsay
        go_wp2
        go_ret
        exact ⟨by rw [HS.out]; rfl, HQ.out⟩
      · rw [decide_eq_false z1, Bool.and_false] at hsay
        have HS := hide hsay
        clear hsay
        go_wp2
        go_ret
        exact ⟨by rw [HS.out]; rfl, HQ.out⟩
    · rw [decide_eq_false hal, Bool.false_and] at hsay
      have HS := hide hsay
      have hai : ¬ (a : Int) < (L.length : Int) := by omega
      clear hsay hat
      go_wp2
      go_ret
      exact ⟨by rw [HS.out]; rfl, HQ.out⟩
theorem refHas_any (ao : Option Addr) (cap : Nat) (L : List Spn) (n : Int) (w : World) (hl : L.length ≤ 140737488351232) (hat : SpAt w ao L) :
 Calls Tryz.prog 123 #[.slice ao L.length cap, .int .i64 n] w fun e w' => e = .returned (.bool (hasL L n)) ∧ Below w.heap.size w w' := by
 have hr := refRight_any ao cap L w hl hat
 by_cases hs : IsSet L
 · rw [decide_eq_true hs] at hr
   have e1 : hasL L n = memB n L := by simp [hasL, hs]
   rw [e1]
   have hc := fun (w2 : World) (h : Below w.heap.size w w2) => in_any ao cap L n w2 hl hs (hat.below h)
   clear hat e1
   go_enter Tryz.func123, Tryz.ntmps123
   go_wp2_with (first | (go_at_call 122; refine hr.mono ?_; rintro e w2 ⟨rfl, x2⟩; have X2 := hide x2; clear x2) | (go_at_call 142; refine (hc _ X2.out).mono ?_; rintro e w3 ⟨rfl, x3⟩; have X3 := hide x3; clear x3))
   go_ret
   exact ⟨rfl, bt X2.out X3.out (Nat.le_refl _)⟩
 · rw [decide_eq_false hs] at hr
   have e1 : hasL L n = false := by simp [hasL, hs]
   rw [e1]
   clear hat e1
   go_enter Tryz.func123, Tryz.ntmps123
   go_wp2_with (go_at_call 122; refine hr.mono ?_; rintro e w2 ⟨rfl, x2⟩; have X2 := hide x2; clear x2)
   go_ret
   exact ⟨rfl, X2.out⟩
theorem star_any (k b : Int) (no : Bool) (so : Option Addr) (n c : Nat) (w : World) : Calls Tryz.prog 88 #[.agg #[.int .i64 k, .int .i64 b, .bool no, .slice so n c]] w fun e w' => e = .returned (.bool (manyK k)) ∧ Below w.heap.size w w' := by
 by_cases h4 : k = 4
 · have HE : Hid (manyK k = true) := by simp [Hid, manyK, h4]
   go_enter Tryz.func88, Tryz.ntmps88
   go_wp2
   go_ret
   exact ⟨by rw [HE.out]; rfl, al (Below.refl _ _) _⟩
 · by_cases h5 : k = 5
   · have HE : Hid (manyK k = true) := by simp [Hid, manyK, h5]
     go_enter Tryz.func88, Tryz.ntmps88
     go_wp2
     go_ret
     refine ⟨?_, al (Below.refl _ _) _⟩
     rw [HE.out]
     try simp [h5]
   · have HE : Hid (manyK k = false) := by simp [Hid, manyK, h4, h5]
     go_enter Tryz.func88, Tryz.ntmps88
     go_wp2
     go_ret
     refine ⟨?_, al (Below.refl _ _) _⟩
     rw [HE.out]
     try simp [h4, h5]
theorem one_any (kd kb : Int) (kn : Bool) (ks : Option Addr) (kc : Nat) (S : List Spn) (w : World) (hl : S.length ≤ 140737488351232) (hat : SpAt w ks S) :
 Calls Tryz.prog 87 #[.agg #[.int .i64 kd, .int .i64 kb, .bool kn, .slice ks S.length kc]] w fun e w' => YesNo (Rp ⟨kd, kb, kn, S⟩) e ∧ Below w.heap.size w w' := by
 by_cases h1 : kd = 1
 · subst h1
   clear hat
   cases kn with
   | true =>
     have HN : Hid (¬ Rp ⟨1, kb, true, S⟩) := fun h => by have := (Rp_one.1 h).2.2.1; cases this
     go_enter Tryz.func87, Tryz.ntmps87
     go_wp2
     go_ret
     exact ⟨.no HN.out (by first | rfl | simp_all [beq_eq_false_iff_ne]), al (Below.refl _ _) _⟩
   | false =>
     by_cases a4 : S = []
     · by_cases a1 : (32 : Int) ≤ kb
       · by_cases a2 : kb ≤ 126
         · have HY : Hid (Rp ⟨1, kb, false, S⟩) := Rp_one.2 ⟨a1, a2, rfl, a4⟩
           subst a4
           simp only [List.length_nil]
           go_enter Tryz.func87, Tryz.ntmps87
           go_wp2
           go_ret
           exact ⟨.yes HY.out (by first | rfl | simp_all), al (Below.refl _ _) _⟩
         · have HN : Hid (¬ Rp ⟨1, kb, false, S⟩) := fun h => a2 (Rp_one.1 h).2.1
           subst a4
           simp only [List.length_nil]
           go_enter Tryz.func87, Tryz.ntmps87
           go_wp2
           go_ret
           exact ⟨.no HN.out (by first | rfl | simp_all [beq_eq_false_iff_ne]), al (Below.refl _ _) _⟩
       · have HN : Hid (¬ Rp ⟨1, kb, false, S⟩) := fun h => a1 (Rp_one.1 h).1
         subst a4
         simp only [List.length_nil]
         go_enter Tryz.func87, Tryz.ntmps87
         go_wp2
         go_ret
         exact ⟨.no HN.out (by first | rfl | simp_all [beq_eq_false_iff_ne]), al (Below.refl _ _) _⟩
     · have HN : Hid (¬ Rp ⟨1, kb, false, S⟩) := fun h => a4 (Rp_one.1 h).2.2.2
       have a5 : ¬ ((S.length : Nat) : Int) = 0 := fun h => a4 (List.eq_nil_of_length_eq_zero (by omega))
       go_enter Tryz.func87, Tryz.ntmps87
       go_wp2
       go_ret
       exact ⟨.no HN.out (by first | rfl | simp_all [beq_eq_false_iff_ne]), al (Below.refl _ _) _⟩
 · by_cases h2 : kd = 2
   · subst h2
     clear hat
     by_cases a1 : kb = 0
     · subst a1
       cases kn with
       | true =>
         have HN : Hid (¬ Rp ⟨2, 0, true, S⟩) := fun h => by have := ((Rp_plain (by decide)).1 h).2.1; cases this
         go_enter Tryz.func87, Tryz.ntmps87
         go_wp2
         go_ret
         exact ⟨.no HN.out (by first | rfl | simp_all [beq_eq_false_iff_ne]), al (Below.refl _ _) _⟩
       | false =>
         by_cases a4 : S = []
         · have HY : Hid (Rp ⟨2, 0, false, S⟩) := (Rp_plain (by decide)).2 ⟨rfl, rfl, a4⟩
           subst a4
           simp only [List.length_nil]
           go_enter Tryz.func87, Tryz.ntmps87
           go_wp2
           go_ret
           exact ⟨.yes HY.out (by first | rfl | simp_all), al (Below.refl _ _) _⟩
         · have HN : Hid (¬ Rp ⟨2, 0, false, S⟩) := fun h => a4 ((Rp_plain (by decide)).1 h).2.2
           have a5 : ¬ ((S.length : Nat) : Int) = 0 := fun h => a4 (List.eq_nil_of_length_eq_zero (by omega))
           go_enter Tryz.func87, Tryz.ntmps87
           go_wp2
           go_ret
           exact ⟨.no HN.out (by first | rfl | simp_all [beq_eq_false_iff_ne]), al (Below.refl _ _) _⟩
     · have HN : Hid (¬ Rp ⟨2, kb, kn, S⟩) := fun h => a1 ((Rp_plain (by decide)).1 h).1
       go_enter Tryz.func87, Tryz.ntmps87
       go_wp2
       go_ret
       exact ⟨.no HN.out (by first | rfl | simp_all [beq_eq_false_iff_ne]), al (Below.refl _ _) _⟩
   · by_cases h4 : kd = 4
     · subst h4
       clear hat
       by_cases a1 : kb = 0
       · subst a1
         cases kn with
         | true =>
           have HN : Hid (¬ Rp ⟨4, 0, true, S⟩) := fun h => by have := ((Rp_plain (by decide)).1 h).2.1; cases this
           go_enter Tryz.func87, Tryz.ntmps87
           go_wp2
           go_ret
           exact ⟨.no HN.out (by first | rfl | simp_all [beq_eq_false_iff_ne]), al (Below.refl _ _) _⟩
         | false =>
           by_cases a4 : S = []
           · have HY : Hid (Rp ⟨4, 0, false, S⟩) := (Rp_plain (by decide)).2 ⟨rfl, rfl, a4⟩
             subst a4
             simp only [List.length_nil]
             go_enter Tryz.func87, Tryz.ntmps87
             go_wp2
             go_ret
             exact ⟨.yes HY.out (by first | rfl | simp_all), al (Below.refl _ _) _⟩
           · have HN : Hid (¬ Rp ⟨4, 0, false, S⟩) := fun h => a4 ((Rp_plain (by decide)).1 h).2.2
             have a5 : ¬ ((S.length : Nat) : Int) = 0 := fun h => a4 (List.eq_nil_of_length_eq_zero (by omega))
             go_enter Tryz.func87, Tryz.ntmps87
             go_wp2
             go_ret
             exact ⟨.no HN.out (by first | rfl | simp_all [beq_eq_false_iff_ne]), al (Below.refl _ _) _⟩
       · have HN : Hid (¬ Rp ⟨4, kb, kn, S⟩) := fun h => a1 ((Rp_plain (by decide)).1 h).1
         go_enter Tryz.func87, Tryz.ntmps87
         go_wp2
         go_ret
         exact ⟨.no HN.out (by first | rfl | simp_all [beq_eq_false_iff_ne]), al (Below.refl _ _) _⟩
     · by_cases h5 : kd = 5
       · subst h5
         clear hat
         by_cases a1 : kb = 0
         · subst a1
           cases kn with
           | true =>
             have HN : Hid (¬ Rp ⟨5, 0, true, S⟩) := fun h => by have := ((Rp_plain (by decide)).1 h).2.1; cases this
             go_enter Tryz.func87, Tryz.ntmps87
             go_wp2
             go_ret
             exact ⟨.no HN.out (by first | rfl | simp_all [beq_eq_false_iff_ne]), al (Below.refl _ _) _⟩
           | false =>
             by_cases a4 : S = []
             · have HY : Hid (Rp ⟨5, 0, false, S⟩) := (Rp_plain (by decide)).2 ⟨rfl, rfl, a4⟩
               subst a4
               simp only [List.length_nil]
               go_enter Tryz.func87, Tryz.ntmps87
               go_wp2
               go_ret
               exact ⟨.yes HY.out (by first | rfl | simp_all), al (Below.refl _ _) _⟩
             · have HN : Hid (¬ Rp ⟨5, 0, false, S⟩) := fun h => a4 ((Rp_plain (by decide)).1 h).2.2
               have a5 : ¬ ((S.length : Nat) : Int) = 0 := fun h => a4 (List.eq_nil_of_length_eq_zero (by omega))
               go_enter Tryz.func87, Tryz.ntmps87
               go_wp2
               go_ret
               exact ⟨.no HN.out (by first | rfl | simp_all [beq_eq_false_iff_ne]), al (Below.refl _ _) _⟩
         · have HN : Hid (¬ Rp ⟨5, kb, kn, S⟩) := fun h => a1 ((Rp_plain (by decide)).1 h).1
           go_enter Tryz.func87, Tryz.ntmps87
           go_wp2
           go_ret
           exact ⟨.no HN.out (by first | rfl | simp_all [beq_eq_false_iff_ne]), al (Below.refl _ _) _⟩
       · by_cases h3 : kd = 3
         · subst h3
           by_cases a1 : kb = 0
           · subst a1
             have X1 := hide (al (Below.refl w.heap.size w) (.cells #[.int .i64 3, .int .i64 0, .bool kn, .slice ks S.length kc] 96))
             have B1 := hide (heap_alloc_new w (.cells #[.int .i64 3, .int .i64 0, .bool kn, .slice ks S.length kc] 96))
             have HS := hide (refRight_any ks kc S _ hl (hat.below X1.out))
             by_cases hs : IsSet S
             · rw [decide_eq_true hs] at HS
               by_cases h0 : 0 < S.length
               · obtain ⟨b, off, rfl, hb, hc⟩ := hat.get h0
                 have c0 := (hc 0 h0).1
                 have c1 := (hc (S.length - 1) (by omega)).2
                 simp only [Nat.zero_mul, Nat.add_zero] at c0
                 have hRS := RS_iff hs h0
                 have h0' : (0 : Int) < (S.length : Int) := by omega
                 have hw : IntKind.i64.wrap ((S.length : Int) - 1) = ((S.length - 1 : Nat) : Int) := by simp [IntKind.wrap, IntKind.bits, IntKind.signed]; omega
                 have hlt : ((S.length - 1 : Nat) : Int) < (S.length : Int) := by omega
                 obtain ⟨n1, hn1⟩ : ∃ n1, Hid (n1 = S.length - 1) := ⟨_, rfl⟩
                 rw [← hn1.out] at c1 hRS hw hlt
                 have HRS : Hid (Rp ⟨3, 0, kn, S⟩ ↔ _) := Rp_set.trans ((and_iff_right rfl).trans hRS)
                 generalize (S.getD 0 (0, 0)).1 = x at *
                 generalize (S.getD n1 (0, 0)).2 = y at *
                 clear hc hat hRS
                 by_cases h32 : (32 : Int) ≤ x
                 · by_cases h126 : y ≤ 126
                   · have HY := hide (HRS.out.2 ⟨h32, h126⟩)
                     go_enter Tryz.func87, Tryz.ntmps87
                     go_wp2_with (go_at_call 122; refine HS.out.mono ?_; rintro e w2 ⟨rfl, x2⟩; have X2 := hide (bt X1.out x2 (Nat.le_refl _)); have B2 := (x2.block _ (lt_of_block B1.out)).trans B1.out; obtain ⟨e0, e1, e2, e3⟩ := cells4 B2; clear B2; have d0 := (X2.out.cell (p := ⟨b, off, none⟩) hb).trans c0; have d1 := (X2.out.cell (p := ⟨b, off + n1 * 2 + 1, none⟩) hb).trans c1; have hb2 := Nat.lt_of_lt_of_le hb X2.out.size; clear x2)
                     go_ret
                     exact ⟨.yes HY.out (by first | rfl | simp_all), X2.out⟩
                   · have HN : Hid (¬ Rp ⟨3, 0, kn, S⟩) := fun h => h126 (HRS.out.1 h).2
                     go_enter Tryz.func87, Tryz.ntmps87
                     go_wp2_with (go_at_call 122; refine HS.out.mono ?_; rintro e w2 ⟨rfl, x2⟩; have X2 := hide (bt X1.out x2 (Nat.le_refl _)); have B2 := (x2.block _ (lt_of_block B1.out)).trans B1.out; obtain ⟨e0, e1, e2, e3⟩ := cells4 B2; clear B2; have d0 := (X2.out.cell (p := ⟨b, off, none⟩) hb).trans c0; have d1 := (X2.out.cell (p := ⟨b, off + n1 * 2 + 1, none⟩) hb).trans c1; have hb2 := Nat.lt_of_lt_of_le hb X2.out.size; clear x2)
                     go_ret
                     exact ⟨.no HN.out (by first | rfl | (simp_all; done) | (simp; omega)), X2.out⟩
                 · have HN : Hid (¬ Rp ⟨3, 0, kn, S⟩) := fun h => h32 (HRS.out.1 h).1
                   go_enter Tryz.func87, Tryz.ntmps87
                   go_wp2_with (go_at_call 122; refine HS.out.mono ?_; rintro e w2 ⟨rfl, x2⟩; have X2 := hide (bt X1.out x2 (Nat.le_refl _)); have B2 := (x2.block _ (lt_of_block B1.out)).trans B1.out; obtain ⟨e0, e1, e2, e3⟩ := cells4 B2; clear B2; have d0 := (X2.out.cell (p := ⟨b, off, none⟩) hb).trans c0; have d1 := (X2.out.cell (p := ⟨b, off + n1 * 2 + 1, none⟩) hb).trans c1; have hb2 := Nat.lt_of_lt_of_le hb X2.out.size; clear x2)
                   go_ret
                   exact ⟨.no HN.out (by first | rfl | (simp_all; done) | (simp; omega)), X2.out⟩
               · have hn : ¬ (0 : Int) < (S.length : Int) := by omega
                 have HN : Hid (¬ Rp ⟨3, 0, kn, S⟩) := fun h => (Rp_set.1 h).2.2.1 (List.eq_nil_of_length_eq_zero (by omega))
                 clear hat
                 go_enter Tryz.func87, Tryz.ntmps87
                 go_wp2_with (go_at_call 122; refine HS.out.mono ?_; rintro e w2 ⟨rfl, x2⟩; have X2 := hide (bt X1.out x2 (Nat.le_refl _)); have B2 := (x2.block _ (lt_of_block B1.out)).trans B1.out; obtain ⟨e0, e1, e2, e3⟩ := cells4 B2; clear B2; clear x2)
                 go_ret
                 exact ⟨.no HN.out (by first | rfl | (simp_all; done) | (simp; omega)), X2.out⟩
             · rw [decide_eq_false hs] at HS
               have HN : Hid (¬ Rp ⟨3, 0, kn, S⟩) := fun h => hs (Rp_set.1 h).2.1
               clear hat
               go_enter Tryz.func87, Tryz.ntmps87
               go_wp2_with (go_at_call 122; refine HS.out.mono ?_; rintro e w2 ⟨rfl, x2⟩; have X2 := hide (bt X1.out x2 (Nat.le_refl _)); have B2 := (x2.block _ (lt_of_block B1.out)).trans B1.out; obtain ⟨e0, e1, e2, e3⟩ := cells4 B2; clear B2; clear x2)
               go_ret
               exact ⟨.no HN.out (by first | rfl | (simp_all; done) | (simp; omega)), X2.out⟩
           · have HN : Hid (¬ Rp ⟨3, kb, kn, S⟩) := fun h => a1 (Rp_set.1 h).1
             clear hat
             go_enter Tryz.func87, Tryz.ntmps87
             go_wp2
             go_ret
             exact ⟨.no HN.out (by first | rfl | (simp_all; done)), al (Below.refl _ _) _⟩
         · have HN : Hid (¬ Rp ⟨kd, kb, kn, S⟩) := Rp_other h1 h2 h3 h4 h5
           clear hat
           by_cases a1 : kb = 0
           · cases kn with
             | true =>
               go_enter Tryz.func87, Tryz.ntmps87
               go_wp2
               go_ret
               exact ⟨.no HN.out (by first | rfl | simp_all [beq_eq_false_iff_ne]), al (Below.refl _ _) _⟩
             | false =>
               by_cases a4 : S = []
               · subst a4
                 simp only [List.length_nil]
                 go_enter Tryz.func87, Tryz.ntmps87
                 go_wp2
                 go_ret
                 exact ⟨.no HN.out (by first | rfl | simp_all [beq_eq_false_iff_ne]), al (Below.refl _ _) _⟩
               · have a5 : ¬ ((S.length : Nat) : Int) = 0 := fun h => a4 (List.eq_nil_of_length_eq_zero (by omega))
                 go_enter Tryz.func87, Tryz.ntmps87
                 go_wp2
                 all_goals (go_ret; exact ⟨.no HN.out (by first | rfl | simp_all), al (Below.refl _ _) _⟩)
           · skip
             go_enter Tryz.func87, Tryz.ntmps87
             go_wp2
             go_ret
             exact ⟨.no HN.out (by first | rfl | simp_all [beq_eq_false_iff_ne]), al (Below.refl _ _) _⟩
def mkn (n : Nat) (f : Nat → Bool) : Array Value := ((List.range n).map fun i => Value.bool (f i)).toArray
theorem mkn_get (n : Nat) (f : Nat → Bool) (i : Nat) (h : i < n) : (mkn n f)[i]? = some (.bool (f i)) := by simp [mkn, h]
theorem mkn_set (n : Nat) (f : Nat → Bool) (i : Nat) : (mkn n f).set! i (.bool true) = mkn n (upd f i) := by
 apply Array.ext_getElem?
 intro j
 unfold mkn upd
 by_cases hj : j < n
 · by_cases hi : i = j
   · subst hi; simp [hj]
   · have : ¬ j = i := fun h => hi h.symm
     simp [hj, hi, this]
 · simp [hj]
theorem mkn_made (n : Nat) : madeCells #[.bool false] n = mkn n (fun _ => false) := by
 apply Array.ext_getElem?
 intro j
 unfold mkn
 by_cases hj : j < n
 · simp [madeCells, hj, Nat.mod_one]
 · simp [madeCells, hj]
theorem Tryz.info4 : (Tryz.prog.info? 4).map (fun i => (i.zero, i.size, i.bytes)) = some (some (.bool false), 1, 1) := by kernel_rfl
theorem make_marks (n : Nat) (hn : n ≤ 64) (w : World) : (Instr.makeSlice 86 (.int .i64 ((n : Int) + 1)) (.int .i64 ((n : Int) + 1))).run Tryz.prog w = .ok (.slice (some ⟨w.heap.size, 0, none⟩) (n + 1) (n + 1)) (w.alloc (.cells (mkn (n + 1) fun _ => false) 4)) := by
 have := run_make_row' (P := Tryz.prog) 86 4 (.bool false) 1 (by kernel_rfl) Tryz.info4 rfl .i64 .i64 (n + 1) (by omega) (by omega) w
 rw [mkn_made] at this
 exact this
def MkAt (w : World) (g n : Nat) (f : Nat → Bool) : Prop := w.heap[g]? = some (.cells (mkn n f) 4 (0, 0))
theorem MkAt.cell {w : World} {g n : Nat} {f : Nat → Bool} (h : MkAt w g n f) {i : Nat} (hi : i < n) : w.cell? ⟨g, i, none⟩ = some (.bool (f i)) ∧ w.frozen? ⟨g, i, none⟩ = false :=
 ⟨by rw [cell_of_row _ _ _ _ _ _ h]; exact mkn_get _ _ _ hi, frozen_of_row _ _ _ _ _ h⟩
theorem MkAt.set {w : World} {g n : Nat} {f : Nat → Bool} (h : MkAt w g n f) (i : Nat) : MkAt (w.setCell ⟨g, i, none⟩ (.bool true)) g n (upd f i) := by
 unfold MkAt
 rw [← mkn_set]
 exact block_setCell h i _
theorem MkAt.kept {w w' : World} {g n : Nat} {f : Nat → Bool} (h : MkAt w g n f) (k : Below w.heap.size w w') : MkAt w' g n f := (k.block _ (lt_of_block h)).trans h
theorem kept_one {w : World} {g i : Nat} {v : Value} : Kept (fun k => k = g) w (w.setCell ⟨g, i, none⟩ v) := Kept.setCell (F := fun k => k = g) (p := ⟨g, i, none⟩) (Kept.refl _ _) rfl _
theorem refClose_any (ao : Option Addr) (cap g : Nat) (D : List PD) (f : Nat → Bool) (w0 w : World) (hl : D.length ≤ 64) (hat : PcAt w0 ao D) (hB : Below w0.heap.size w0 w) (hg : w0.heap.size ≤ g) (hm : MkAt w g (D.length + 1) f) :
 Calls Tryz.prog 89 #[.slice ao D.length cap, .slice (some ⟨g, 0, none⟩) (D.length + 1) (D.length + 1)] w fun e w' => e = .returned (.tuple #[]) ∧ MkAt w' g (D.length + 1) (clF (D.map PD.p) f D.length) ∧ Kept (fun k => k = g) w w' := by
 have HAT := hide hat
 have HB := hide hB
 have HG := hide hg
 have HM := hide hm
 clear hat hB hg hm
 go_enter Tryz.func89, Tryz.ntmps89
 go_wp2
 go_loopw [4] (fun x wr => ∃ k : Nat, k ≤ D.length ∧ x = .int .i64 k ∧ Hid (MkAt wr g (D.length + 1) (clF (D.map PD.p) f k)) ∧ Hid (Kept (fun k => k = g) w wr)) (fun x _ => D.length - (RowKit.intOf x).toNat)
 case atStart => exact ⟨0, Nat.zero_le _, rfl, HM, Kept.refl _ _⟩
 case round =>
  obtain ⟨k, hk, rfl, M, K⟩ := hrel
  rename World => wr
  by_cases hlt : k < D.length
  · have hlt' : (k : Int) < (D.length : Int) := by omega
    have h65 : (k : Int) < (D.length : Int) + 1 := by omega
    have h66 : (k : Int) + 1 < (D.length : Int) + 1 := by omega
    rcases HAT.out with h | ⟨b, off, rfl, hb, hc⟩
    · rw [h] at hlt; simp at hlt
    obtain ⟨p0, p1, p2, p3, _⟩ := hc k hlt
    have X : Hid (Below w0.heap.size w0 wr) := HB.out.trans (K.out.below HB.out.size (fun i hi => by rw [hi]; exact HG.out))
    have hbw : b < wr.heap.size := Nat.lt_of_lt_of_le hb X.out.size
    have r0 := (X.out.cell (p := ⟨b, off + k * 4, none⟩) hb).trans p0
    have r1 := (X.out.cell (p := ⟨b, off + k * 4 + 1, none⟩) hb).trans p1
    have r2 := (X.out.cell (p := ⟨b, off + k * 4 + 2, none⟩) hb).trans p2
    have r3 := (X.out.cell (p := ⟨b, off + k * 4 + 3, none⟩) hb).trans p3
    have HY := hide (fun h1 h2 => clF_yes (D := D) (f := f) (k := k) hlt h1 h2)
    have HN := hide (fun h1 => clF_no (D := D) (f := f) (k := k) hlt h1)
    have HMN := hide (fun w => star_any D[k].p.kind D[k].p.b D[k].p.no D[k].so D[k].p.set.length D[k].sc w)
    generalize D[k].p.kind = kd at *
    generalize D[k].p.b = kb at *
    generalize D[k].p.no = kn at *
    generalize D[k].p.set.length = kl at *
    generalize D[k].so = ks at *
    generalize D[k].sc = kc at *
    clear hc p0 p1 p2 p3
    cases hf : clF (D.map PD.p) f k k with
    | false =>
      have HE := hide (HN.out (by rw [hf, Bool.false_and]))
      go_wp2_with (go_at_call 88; refine (HMN.out _).mono ?_; rintro e w5 ⟨rfl, x5⟩; have M5 := hide (M.out.kept x5); have X5 := hide x5; obtain ⟨c0, _⟩ := M5.out.cell (show k < D.length + 1 by omega); rw [hf] at c0; clear x5)
      go_roundw
      case rel => exact ⟨k + 1, by omega, by go_num, by unfold Hid; rw [HE.out]; exact M5.out, K.out.trans (Kept.of_below X5.out)⟩
      case measure => simp [RowKit.intOf]; omega
    | true =>
      cases hm : manyK kd with
      | false =>
        have HE := hide (HN.out (by rw [hm, Bool.and_false]))
        rw [hm] at HMN
        go_wp2_with (go_at_call 88; refine (HMN.out _).mono ?_; rintro e w5 ⟨rfl, x5⟩; have M5 := hide (M.out.kept x5); have X5 := hide x5; obtain ⟨c0, _⟩ := M5.out.cell (show k < D.length + 1 by omega); rw [hf] at c0; clear x5)
        go_roundw
        case rel => exact ⟨k + 1, by omega, by go_num, by unfold Hid; rw [HE.out]; exact M5.out, K.out.trans (Kept.of_below X5.out)⟩
        case measure => simp [RowKit.intOf]; omega
      | true =>
        have HE := hide (HY.out hf hm)
        rw [hm] at HMN
        go_wp2_with (go_at_call 88; refine (HMN.out _).mono ?_; rintro e w5 ⟨rfl, x5⟩; have M5 := hide (M.out.kept x5); have X5 := hide x5; obtain ⟨c0, _⟩ := M5.out.cell (show k < D.length + 1 by omega); rw [hf] at c0; obtain ⟨d1, g1⟩ := M5.out.cell (show k + 1 < D.length + 1 by omega); clear x5)
        go_roundw
        case rel => exact ⟨k + 1, by omega, by go_num, by unfold Hid; rw [HE.out]; exact M5.out.set _, (K.out.trans (Kept.of_below X5.out)).trans kept_one⟩
        case measure => simp [RowKit.intOf]; omega
  · have hnl : ¬ (k : Int) < (D.length : Int) := by omega
    have hkl : k = D.length := by omega
    subst hkl
    go_wp2
    refine bodyPost_end (v := .tuple #[]) (results_none rfl _ _ _) rfl ?_
    exact ⟨rfl, M.out, K.out⟩
theorem refBegin_any (ao : Option Addr) (cap : Nat) (D : List PD) (w : World) (hl : D.length ≤ 64) (hat : PcAt w ao D) :
 Calls Tryz.prog 50 #[.slice ao D.length cap] w fun e w' => e = .returned (.slice (some ⟨w.heap.size, 0, none⟩) (D.length + 1) (D.length + 1)) ∧ MkAt w' w.heap.size (D.length + 1) (clF (D.map PD.p) (upd (fun _ => false) 0) D.length) ∧ Below w.heap.size w w' := by
 have hmk := make_marks D.length hl
 have M1 : Hid (MkAt (w.alloc (.cells (mkn (D.length + 1) fun _ => false) 4)) w.heap.size (D.length + 1) fun _ => false) := heap_alloc_new _ _
 have X1 := hide (al (Below.refl w.heap.size w) (.cells (mkn (D.length + 1) fun _ => false) 4))
 have h0 : (0 : Int) < (D.length : Int) + 1 := by omega
 obtain ⟨c0, f0⟩ := M1.out.cell (show 0 < D.length + 1 by omega)
 have X2 := hide (al (Below.refl w.heap.size w) (.cells ((mkn (D.length + 1) fun _ => false).setIfInBounds 0 (.bool true)) 4))
 have M2 : Hid (MkAt (w.alloc (.cells ((mkn (D.length + 1) fun _ => false).setIfInBounds 0 (.bool true)) 4)) w.heap.size (D.length + 1) (upd (fun _ => false) 0)) := by
  unfold Hid MkAt
  rw [← mkn_set]
  exact heap_alloc_new _ _
 have HC := hide (refClose_any ao cap w.heap.size D (upd (fun _ => false) 0) w _ hl hat X2.out (Nat.le_refl _) M2.out)
 clear hat
 go_enter Tryz.func50, Tryz.ntmps50
 go_wp2_with (go_at_call 89; refine HC.out.mono ?_; rintro e w3 ⟨rfl, m3, k3⟩; have M3 := hide m3; have X3 : Hid (Below w.heap.size w w3) := X2.out.trans (k3.below X2.out.size (fun i hi => by omega)); clear m3 k3)
 go_ret
 exact ⟨rfl, M3.out, X3.out⟩
theorem Rp.len {p : Pc} (h : Rp p) : IsSet p.set := by
 rcases h with h | h | h
 · rw [h.2.2.2.2]; exact ⟨fun _ h => (by cases h), List.Pairwise.nil⟩
 · rw [h.2.2.2]; exact ⟨fun _ h => (by cases h), List.Pairwise.nil⟩
 · exact h.2.2.1
theorem refTakes_any (kd kb : Int) (kn : Bool) (ks : Option Addr) (kc : Nat) (S : List Spn) (c : UInt8) (w : World) (hR : Rp ⟨kd, kb, kn, S⟩) (hl : S.length ≤ 140737488351232) (hat : SpAt w ks S) :
 Calls Tryz.prog 90 #[.agg #[.int .i64 kd, .int .i64 kb, .bool kn, .slice ks S.length kc], .int .u8 (c.toNat : Nat)] w fun e w' => e = .returned (.bool (tkB ⟨kd, kb, kn, S⟩ ((c.toNat : Nat) : Int))) ∧ Below w.heap.size w w' := by
 have hk := hR.kinds
 have hS : IsSet S := hR.len
 have hc : c.toNat < 256 := c.toNat_lt
 obtain ⟨z, hz⟩ : ∃ z : Int, Hid (z = ((c.toNat : Nat) : Int)) := ⟨_, rfl⟩
 have hw : IntKind.i64.wrap z = z := by rw [hz.out]; simp [IntKind.wrap, IntKind.bits, IntKind.signed]; omega
 rw [← hz.out]
 clear hR hc
 have hk' : kd = 1 ∨ kd = 2 ∨ kd = 3 ∨ kd = 4 ∨ kd = 5 := hk
 clear hk
 by_cases h3 : kd = 3
 · subst h3
   clear hk'
   have X1 := hide (al (Below.refl w.heap.size w) (.cells #[.int .i64 3, .int .i64 kb, .bool kn, .slice ks S.length kc] 96))
   have B1 := hide (heap_alloc_new w (.cells #[.int .i64 3, .int .i64 kb, .bool kn, .slice ks S.length kc] 96))
   have HS := hide (refHas_any ks kc S z _ hl (hat.below X1.out))
   have HH : Hid (hasL S z = memB z S) := by simp [Hid, hasL, hS]
   rw [HH.out] at HS
   have HE : Hid (tkB ⟨3, kb, kn, S⟩ z = ((z != 47) && (memB z S != kn))) := rfl
   rw [HE.out]
   clear hat hS
   generalize memB z S = m at *
   by_cases h47 : z = 47
   · subst h47
     clear hw
     go_enter Tryz.func90, Tryz.ntmps90
     go_wp2_with (go_at_call 123; refine HS.out.mono ?_; rintro e w2 ⟨rfl, x2⟩; have X2 := hide (bt X1.out x2 (Nat.le_refl _)); have B2 := (x2.block _ (lt_of_block B1.out)).trans B1.out; obtain ⟨e0, e1, e2, e3⟩ := cells4 B2; clear B2 x2)
     go_ret
     exact ⟨by first | rfl | simp, X2.out⟩
   · go_enter Tryz.func90, Tryz.ntmps90
     go_wp2_with (go_at_call 123; refine HS.out.mono ?_; rintro e w2 ⟨rfl, x2⟩; have X2 := hide (bt X1.out x2 (Nat.le_refl _)); have B2 := (x2.block _ (lt_of_block B1.out)).trans B1.out; obtain ⟨e0, e1, e2, e3⟩ := cells4 B2; clear B2 x2)
     go_ret
     exact ⟨by first | rfl | simp [h47], X2.out⟩
 · clear hat
   rcases hk' with rfl | rfl | h | rfl | rfl
   · have HE : Hid (tkB ⟨1, kb, kn, S⟩ z = decide (z = kb)) := rfl
     rw [HE.out]
     go_enter Tryz.func90, Tryz.ntmps90
     go_wp2
     go_ret
     exact ⟨by first | rfl | simp, al (Below.refl _ _) _⟩
   · have HE : Hid (tkB ⟨2, kb, kn, S⟩ z = (z != 47)) := rfl
     rw [HE.out]
     go_enter Tryz.func90, Tryz.ntmps90
     go_wp2
     go_ret
     exact ⟨by first | rfl | simp, al (Below.refl _ _) _⟩
   · exact absurd h h3
   · have HE : Hid (tkB ⟨4, kb, kn, S⟩ z = (z != 47)) := rfl
     rw [HE.out]
     go_enter Tryz.func90, Tryz.ntmps90
     go_wp2
     go_ret
     exact ⟨by first | rfl | simp, al (Below.refl _ _) _⟩
   · have HE : Hid (tkB ⟨5, kb, kn, S⟩ z = true) := rfl
     rw [HE.out]
     go_enter Tryz.func90, Tryz.ntmps90
     go_wp2
     go_ret
     exact ⟨by first | rfl | simp, al (Below.refl _ _) _⟩
structure RtQ (D : List PD) (k : Nat) : Prop where
 rp : ∀ j (h : j < D.length), j < k → Rp D[j].p
 adj : ∀ i (h : i + 1 < D.length), i < k → ¬ (D[i].p.kind = 4 ∧ manyK D[i + 1].p.kind = true)
theorem RtQ.zero (D : List PD) : RtQ D 0 := ⟨fun _ _ h => absurd h (Nat.not_lt_zero _), fun _ _ h => absurd h (Nat.not_lt_zero _)⟩
theorem RtQ.next {D : List PD} {k : Nat} (h : RtQ D k) (hk : k < D.length) (hp : Rp D[k].p) (ha : ∀ (hj : k + 1 < D.length), ¬ (D[k].p.kind = 4 ∧ manyK D[k + 1].p.kind = true)) : RtQ D (k + 1) := by
 refine ⟨fun j hj hlt => ?_, fun i hi hlt => ?_⟩
 · rcases Nat.lt_or_ge j k with h1 | h1
   · exact h.rp j hj h1
   · obtain rfl : j = k := by omega
     exact hp
 · rcases Nat.lt_or_ge i k with h1 | h1
   · exact h.adj i hi h1
   · obtain rfl : i = k := by omega
     exact ha hi
theorem refRightP_any (ao : Option Addr) (cap : Nat) (D : List PD) (w : World) (hLen : ∀ d ∈ D, d.p.set.length ≤ 140737488351232) (hat : PcAt w ao D) :
 Calls Tryz.prog 49 #[.slice ao D.length cap] w fun e w' => YesNo (Rt (D.map PD.p)) e ∧ Below w.heap.size w w' := by
 have HAT := hide hat
 have HLEN := hide hLen
 clear hat hLen
 by_cases hl : D.length ≤ 64
 · have hl' : ¬ (64 : Int) < (D.length : Int) := by omega
   go_enter Tryz.func49, Tryz.ntmps49
   go_wp2
   go_loopw [3] (fun x wr => ∃ k : Nat, k ≤ D.length ∧ x = .int .i64 k ∧ Hid (RtQ D k) ∧ Hid (Below w.heap.size w wr)) (fun x _ => D.length - (RowKit.intOf x).toNat)
   case atStart => exact ⟨0, Nat.zero_le _, rfl, RtQ.zero D, Below.refl _ _⟩
   case round =>
    obtain ⟨k, hk, rfl, S, X⟩ := hrel
    rename World => wr
    by_cases hlt : k < D.length
    · have hlt' : (k : Int) < (D.length : Int) := by omega
      rcases HAT.out with h | ⟨pb, off, rfl, hb, hc⟩
      · rw [h] at hlt; simp at hlt
      obtain ⟨p0, p1, p2, p3, p4⟩ := hc k hlt
      have hbw : pb < wr.heap.size := Nat.lt_of_lt_of_le hb X.out.size
      have r0 := (X.out.cell (p := ⟨pb, off + k * 4, none⟩) hb).trans p0
      have r1 := (X.out.cell (p := ⟨pb, off + k * 4 + 1, none⟩) hb).trans p1
      have r2 := (X.out.cell (p := ⟨pb, off + k * 4 + 2, none⟩) hb).trans p2
      have r3 := (X.out.cell (p := ⟨pb, off + k * 4 + 3, none⟩) hb).trans p3
      have P4 := hide (p4.below X.out)
      have HPL := hide (HLEN.out _ (List.getElem_mem hlt))
      have HNX := hide (fun hp ha => S.out.next hlt hp ha)
      have HNR : Hid (¬ Rp D[k].p → ¬ Rt (D.map PD.p)) := fun h1 h2 => h1 (Rt_rp h2 k hlt)
      have HNA : Hid (∀ (hj : k + 1 < D.length), D[k].p.kind = 4 → manyK D[k + 1].p.kind = true → ¬ Rt (D.map PD.p)) := fun hj h1 h2 h3 => Rt_adj h3 k hj ⟨h1, h2⟩
      have HCJ := hide (fun (hj : k + 1 < D.length) => hc (k + 1) hj)
      have HRP := hide (fun W (x : Below wr.heap.size wr W) => one_any D[k].p.kind D[k].p.b D[k].p.no D[k].so D[k].sc D[k].p.set W HPL.out (P4.out.below x))
      have HEP : Hid ((⟨D[k].p.kind, D[k].p.b, D[k].p.no, D[k].p.set⟩ : Pc) = D[k].p) := rfl
      generalize D[k].p = q at *
      generalize D[k].so = ks at *
      generalize D[k].sc = kc at *
      clear hc p0 p1 p2 p3 p4
      go_wp2_with (fail)
      refine (HRP.out _ (Below.refl _ _)).mono ?_
      rintro e w5 ⟨h5, x5⟩
      have X5 := hide x5
      have d0 := (x5.cell (p := ⟨pb, off + k * 4, none⟩) hbw).trans r0
      have XW := hide (bt X.out X5.out (Nat.le_refl _))
      clear x5 r0 r1 r2 r3
      rcases h5 with ⟨hp, rfl⟩ | ⟨hp, rfl⟩
      · have HP := hide hp
        clear hp
        by_cases h4 : q.kind = 4
        · by_cases hj : k + 1 < D.length
          · have hj' : (k : Int) + 1 < (D.length : Int) := by omega
            obtain ⟨p0, p1, p2, p3, p4⟩ := HCJ.out hj
            have hb5 : pb < w5.heap.size := Nat.lt_of_lt_of_le hb XW.out.size
            have s0 := (XW.out.cell (p := ⟨pb, off + (k + 1) * 4, none⟩) hb).trans p0
            have s1 := (XW.out.cell (p := ⟨pb, off + (k + 1) * 4 + 1, none⟩) hb).trans p1
            have s2 := (XW.out.cell (p := ⟨pb, off + (k + 1) * 4 + 2, none⟩) hb).trans p2
            have s3 := (XW.out.cell (p := ⟨pb, off + (k + 1) * 4 + 3, none⟩) hb).trans p3
            have HN1 := hide (HNA.out hj h4)
            have HN2 : Hid (¬ manyK D[k + 1].p.kind = true → RtQ D (k + 1)) := fun h => HNX.out HP.out (fun _ h2 => h h2.2)
            have HMN := hide (fun w => star_any D[k + 1].p.kind D[k + 1].p.b D[k + 1].p.no D[k + 1].so D[k + 1].p.set.length D[k + 1].sc w)
            generalize D[k + 1].p = q1 at *
            generalize D[k + 1].so = ks1 at *
            generalize D[k + 1].sc = kc1 at *
            rw [h4] at d0
            clear HNX HCJ HNA p0 p1 p2 p3 p4 h4
            cases hm : manyK q1.kind with
            | true =>
              have HF := hide (HN1.out hm)
              rw [hm] at HMN
              go_wp2_with (go_at_call 88; refine (HMN.out _).mono ?_; rintro e w6 ⟨rfl, x6⟩; have X6 := hide (bt XW.out x6 (Nat.le_refl _)); clear x6)
              go_ret
              exact ⟨.no HF.out rfl, X6.out⟩
            | false =>
              have S6 := hide (HN2.out (by rw [hm]; decide))
              rw [hm] at HMN
              go_wp2_with (go_at_call 88; refine (HMN.out _).mono ?_; rintro e w6 ⟨rfl, x6⟩; have X6 := hide (bt XW.out x6 (Nat.le_refl _)); clear x6)
              go_roundw
              case rel => exact ⟨k + 1, by omega, by go_num, S6, X6⟩
              case measure => simp [RowKit.intOf]; omega
          · have hj' : ¬ (k : Int) + 1 < (D.length : Int) := by omega
            have S6 := hide (HNX.out HP.out (fun h => absurd h hj))
            rw [h4] at d0
            clear HNX HCJ HNA h4
            go_wp2
            go_roundw
            case rel => exact ⟨k + 1, by omega, by go_num, S6, XW⟩
            case measure => simp [RowKit.intOf]; omega
        · have S6 := hide (HNX.out HP.out (fun _ h => h4 h.1))
          clear HNX HCJ HNA
          go_wp2
          go_roundw
          case rel => exact ⟨k + 1, by omega, by go_num, S6, XW⟩
          case measure => simp [RowKit.intOf]; omega
      · have HF := hide (HNR.out hp)
        clear hp
        go_wp2
        go_ret
        exact ⟨.no HF.out rfl, XW.out⟩
    · have hnl : ¬ (k : Int) < (D.length : Int) := by omega
      have HY : Hid (Rt (D.map PD.p)) := Rt_of hl (fun j hj => S.out.rp j hj (by omega)) (fun i hi => S.out.adj i hi (by omega))
      go_wp2
      go_ret
      exact ⟨.yes HY.out rfl, X.out⟩
 · have hl' : (64 : Int) < (D.length : Int) := by omega
   have HN : Hid (¬ Rt (D.map PD.p)) := fun h => hl (by simpa using h.1)
   go_enter Tryz.func49, Tryz.ntmps49
   go_wp2
   go_ret
   exact ⟨.no HN.out rfl, Below.refl _ _⟩
end Go.Proofs.YtdgoilkgplnhfaaGreat
