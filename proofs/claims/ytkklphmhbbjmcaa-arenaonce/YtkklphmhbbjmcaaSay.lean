/-
  The statement's says: what a ref says of raw classes, by a function. Condition: numbers of the machine's kind.
-/
import Derived.Test.YtkklphmhbbjmcaaWrp
import Derived.Test.YtkklphmhbbjmcaaStb
namespace Go.Proofs.Ytkklphmhbbjmcaa
open Go.RowKit Go.Lib Go.Maps

/-- The statement's own list of nodes. -/
structure NR (w : World) (base : Nat) (nv : Value) (R : List ND) : Prop where
  row : w.ownsRow base 47 2 nv R.length (ndC R)
  kid : ∀ x ∈ R, ZBk w x.kb x.ks
theorem NR.below {w w' : World} {base : Nat} {nv : Value} {R : List ND} (h : NR w base nv R) (y : Below w.heap.size w w') : NR w' base nv R := ⟨own_below h.row y, fun x hx => (h.kid x hx).below y⟩
theorem NR.node {w : World} {base : Nat} {R : List ND} {g cap n : Nat} (h : NR w base (.slice (some ⟨g, 0, none⟩) n cap) R) {i : Nat} (hi : i < R.length) : w.cell? ⟨g, i * 2, none⟩ = some (.int .i64 (R[i]).lv) ∧ w.cell? ⟨g, i * 2 + 1, none⟩ = some (.slice (some ⟨(R[i]).kb, 0, none⟩) (R[i]).ks.length (R[i]).kc) ∧ ZBk w (R[i]).kb (R[i]).ks := by
  obtain ⟨h1, h2⟩ := ndC_get R i hi
  have hrow := h.row
  have hr := h.kid
  obtain ⟨ao, c, e, _⟩ := own_shape hrow
  injection e with e1 e2 e3
  subst e2 e3
  exact ⟨(World.ownsRow.cellAt hrow (i * 2) (by omega)).trans h1, (World.ownsRow.cellAt hrow (i * 2 + 1) (by omega)).trans h2, hr _ (List.getElem_mem _)⟩
def nxt (N : List Nd) (S p : List Int) (f : Int) : Int :=
  (N.getD (f - 2).toNat (0, [])).2.getD (if (N.getD (f - 2).toNat (0, [])).1 < (p.length : Int) then pkZ (p.getD (N.getD (f - 2).toNat (0, [])).1.toNat 0) (S.getD (N.getD (f - 2).toNat (0, [])).1.toNat 0).toNat else 0) 0
def sayF (N : List Nd) (S p : List Int) : Nat → Int → Bool
  | 0, f => decide (f = 1)
  | n + 1, f => if 1 < f then sayF N S p n (nxt N S p f) else decide (f = 1)
theorem sayF_end {N : List Nd} {S p : List Int} {n : Nat} {f : Int} (h : ¬ 1 < f) : sayF N S p n f = decide (f = 1) := by
  cases n with
  | zero => rfl
  | succ n => rw [sayF, if_neg h]
theorem nxt_node {R : List ND} {S p : List Int} {k : Nat} (hk : k < R.length) : nxt (R.map ND.nd) S p ((k : Int) + 2) = (R[k]).ks.getD (if (R[k]).lv < (p.length : Int) then pkZ (p.getD (R[k]).lv.toNat 0) (S.getD (R[k]).lv.toNat 0).toNat else 0) 0 := by
  unfold nxt
  have e : (R.map ND.nd).getD ((k : Int) + 2 - 2).toNat (0, []) = ((R[k]).lv, (R[k]).ks) := by
    rw [show ((k : Int) + 2 - 2).toNat = k by omega, List.getD_eq_getElem?_getD, List.getElem?_map, List.getElem?_eq_getElem hk]
    rfl
  rw [e]
set_option maxRecDepth 100000 in
set_option maxHeartbeats 4000000 in
theorem says_any {w : World} {base lb lc nc pc : Nat} {na pa : Option Addr} {R : List ND} {S : List Int} {M : Int} {p : List Int} (f0 : Int) (h : NR w base (.slice na R.length nc) R) (hok : Ok S M (R.map ND.nd)) (hS : ZBk w lb S) (hp : ZAt w pa p) (hpf : ∀ z ∈ p, Fit z) (hf0 : 0 ≤ f0) (hf1 : f0 < (R.length : Int) + 2) :
    Calls Try.prog 17 #[.slice na R.length nc, .slice (some ⟨lb, 0, none⟩) S.length lc, .int .i64 f0, .slice pa p.length pc] w fun e w' => e = .returned (.bool (sayF (R.map ND.nd) S p f0.toNat f0)) ∧ Below w.heap.size w w' := by
  have HN := hide h
  have HO := hide hok
  have HS := hide hS
  have HP := hide hp
  have HPF := hide hpf
  have hRl : R.length ≤ 8192 := by
    have h1 := hok.few
    have h2 := hok.m1
    rw [List.length_map] at h1
    omega
  have hSl := hok.sz.le
  clear h hok hS hp hpf
  go_enter Try.func17, Try.ntmps17
  go_upto_block 0 with fail
  go_wp2
  go_loopw [2] (fun y wr => ∃ (n : Nat) (f : Int), 0 ≤ f ∧ f < (R.length : Int) + 2 ∧ f.toNat ≤ n ∧ y = .int .i64 f ∧ Hid (sayF (R.map ND.nd) S p n f = sayF (R.map ND.nd) S p f0.toNat f0) ∧ Hid (Below w.heap.size w wr)) (fun y _ => (RowKit.intOf y).toNat)
  case atStart => exact ⟨f0.toNat, f0, hf0, hf1, Nat.le_refl _, rfl, rfl, Below.refl _ _⟩
  case round =>
    obtain ⟨n, f, h0, h1, hn, rfl, HE, X1⟩ := hrel
    by_cases hf : 1 < f
    · obtain ⟨k, rfl⟩ : ∃ k : Nat, f = (k : Int) + 2 := ⟨(f - 2).toNat, by omega⟩
      have hk : k < R.length := by omega
      have hk' : (k : Int) < (R.length : Int) := by omega
      obtain ⟨n', rfl⟩ : ∃ n', n = n' + 1 := ⟨n - 1, by omega⟩
      have fk : IntKind.i64.wrap ((k : Int) + 2 - 2) = (k : Int) := by simp [IntKind.wrap, IntKind.bits, IntKind.signed]; omega
      have hmay := (HO.out.each k (by rw [List.length_map]; exact hk)).1
      rw [List.getElem_map] at hmay
      have hr := hmay.rng (N := (R.map ND.nd).take k) HO.out (by rw [List.length_take, List.length_map]; omega)
      have hlv0 := hmay.ge
      have hlv1 := hmay.lt
      have hlen := hmay.len
      have hkid : ∀ c, c < (R[k]).ks.length → 0 ≤ (R[k]).ks.getD c 0 ∧ (R[k]).ks.getD c 0 < (k : Int) + 2 := fun c hc => by
        have hm : (R[k]).ks.getD c 0 ∈ (R[k]).ks := by
          rw [List.getD_eq_getElem?_getD, List.getElem?_eq_getElem hc]
          exact List.getElem_mem _
        have := (hmay.kid _ hm).1
        unfold hasR at this
        rw [List.length_take, List.length_map] at this
        omega
      have HKD := hide hkid
      have HE2 : Hid (sayF (R.map ND.nd) S p n' ((R[k]).ks.getD (if (R[k]).lv < (p.length : Int) then pkZ (p.getD (R[k]).lv.toNat 0) (S.getD (R[k]).lv.toNat 0).toNat else 0) 0) = sayF (R.map ND.nd) S p f0.toNat f0) := by
        unfold Hid
        rw [← HE.out, sayF, if_pos hf, nxt_node hk]
      obtain ⟨g, hg⟩ : ∃ g, na = some ⟨g, 0, none⟩ := by
        obtain ⟨ao, c, e, hh⟩ := own_shape HN.out.row
        injection e with e1 e2 e3
        subst e1
        exact hh (by omega)
      subst hg
      obtain ⟨c0, c1, zk⟩ := (HN.out.below X1.out).node hk
      have zk1 := hide zk
      clear hmay zk hkid HE
      simp only [ND.nd] at hlv0 hlv1 hlen hr
      have hks := hr.2.2
      generalize (R[k]).lv = lv at *
      generalize (R[k]).ks = ks at *
      generalize (R[k]).kb = kb at *
      generalize (R[k]).kc = kc at *
      clear hr
      obtain ⟨lvn, rfl⟩ : ∃ lvn : Nat, lv = (lvn : Int) := ⟨lv.toNat, by omega⟩
      simp only [Int.toNat_natCast] at hlen HE2
      go_upto_region 3 with fail
      clear c0 c1
      have y2 : Below wr.heap.size wr (wr.alloc (.cells #[.int .i64 (lvn : Int), .slice (some ⟨kb, 0, none⟩) ks.length kc] 47)) := al (Below.refl _ _) _
      have B2 := hide (heap_alloc_new wr (.cells #[.int .i64 (lvn : Int), .slice (some ⟨kb, 0, none⟩) ks.length kc] 47))
      have X2 := hide (bt X1.out y2 (Nat.le_refl _))
      have ZK := hide (zk1.out.below y2)
      obtain ⟨xb, hxb⟩ : ∃ xb, xb = wr.heap.size := ⟨_, rfl⟩
      rw [← hxb] at B2 ⊢
      clear hxb y2 zk1
      generalize wr.alloc (.cells #[.int .i64 (lvn : Int), .slice (some ⟨kb, 0, none⟩) ks.length kc] 47) = w2 at *
      obtain ⟨r0, r1⟩ := cell_two B2.out
      have hxl := lt_of_block B2.out
      have hlt' : lvn < S.length := by omega
      obtain ⟨sn, hsn⟩ : ∃ sn : Nat, S.getD lvn 0 = (sn : Int) := ⟨ks.length, hlen.symm⟩
      have hsk : sn = ks.length := by omega
      have HSK := hide hsk
      have HSN := hide hsn
      clear hlen hsk
      by_cases hq : lvn < p.length
      · have hq' : (lvn : Int) < (p.length : Int) := by omega
        rw [if_pos hq', hsn, Int.toNat_natCast] at HE2
        clear hsn
        obtain ⟨pb, po, rfl, hpb, g1⟩ := HP.out.get hq
        have hfit : Fit (p.getD lvn 0) := HPF.out _ (by
          rw [List.getD_eq_getElem?_getD, List.getElem?_eq_getElem hq]
          exact List.getElem_mem _)
        have hlS : (lvn : Int) < (S.length : Int) := by omega
        have HRD : Hid (∀ V, Below w2.heap.size w2 V → V.cell? ⟨xb, 0, none⟩ = some (.int .i64 (lvn : Int)) ∧ V.cell? ⟨pb, po + lvn, none⟩ = some (.int .i64 (p.getD lvn 0)) ∧ V.cell? ⟨lb, lvn, none⟩ = some (.int .i64 (sn : Int))) := fun V y => by
          have y3 := bt X2.out y (Nat.le_refl _)
          refine ⟨(y.cell (p := ⟨xb, 0, none⟩) hxl).trans r0, (y3.cell (p := ⟨pb, po + lvn, none⟩) hpb).trans g1, ?_⟩
          rw [(HS.out.below y3).cell hlt', HSN.out]
        have HPK := hide (fun V => pick_any (p.getD lvn 0) sn hfit (by have := HSK.out; omega) (by have := HSK.out; omega) V)
        have hpk := pkZ_lt (p.getD lvn 0) (n := sn) (by have := HSK.out; omega)
        have hpk2 : pkZ (p.getD lvn 0) sn < ks.length := by have := HSK.out; omega
        clear hpk HSK HSN hfit g1
        generalize pkZ (p.getD lvn 0) sn = c at *
        generalize p.getD lvn 0 = pz at *
        have HDr : Hid (Below w2.heap.size w2 w2.drew) := (Below.refl _ _).drew
        go_upto_region 5 with fail
        clear r0
        refine wp_region_quiet (C := fun w' => Below w2.heap.size w2 w') (by kernel_rfl) (by kernel_rfl) HDr.out ?_
        refine QW.out (l := _ :: _) ?_
        iterate 10 (refine QW.take (by rfl) ?_; apply Exists.intro; refine ⟨fun w' hw' => ?_, ?_⟩; (· (obtain ⟨q1, q2, q3⟩ := HRD.out w' hw'; go_simp; first | done | (first | done | rfl))); try simp only [Act.put, List.setIfInBounds_toArray, List.set_cons_zero, List.set_cons_succ])
        iterate 1 (refine QW.take (by rfl) ?_; apply Exists.intro; refine ⟨fun w' hw' => ?_, ?_⟩; (· (obtain ⟨q1, q2, q3⟩ := HRD.out w' hw'; go_simp; (refine (HPK.out w').mono ?_; rintro e w3 ⟨rfl, x3⟩; exact ⟨rfl, by rw [x3]; exact hw'⟩))); try simp only [Act.put, List.setIfInBounds_toArray, List.set_cons_zero, List.set_cons_succ])
        iterate 1 (refine QW.take (by rfl) ?_; apply Exists.intro; refine ⟨fun w' hw' => ?_, ?_⟩; (· (obtain ⟨q1, q2, q3⟩ := HRD.out w' hw'; go_simp; first | done | (first | done | rfl))); try simp only [Act.put, List.setIfInBounds_toArray, List.set_cons_zero, List.set_cons_succ])
        refine QW.nil ?_
        intro w3 x3
        have X3 := hide (bt X2.out x3 (Nat.le_refl _))
        have hkc := HKD.out c (by omega)
        have d0 := (ZK.out.below x3).cell (i := c) (by omega)
        have r2 := (x3.cell (p := ⟨xb, 1, none⟩) hxl).trans r1
        have hck : (c : Int) < (ks.length : Int) := by omega
        clear x3 r1
        generalize ks.getD c 0 = z at *
        go_wp2
        exact ⟨⟨n', z, hkc.1, by omega, by omega, rfl, HE2, X3⟩, by simp [RowKit.intOf]; omega⟩
      · have hq' : ¬ (lvn : Int) < (p.length : Int) := by omega
        rw [if_neg hq'] at HE2
        clear hsn HSN HSK
        have hkc := HKD.out 0 (by omega)
        have d0 := ZK.out.cell (i := 0) (by omega)
        have hck : (0 : Int) < (ks.length : Int) := by omega
        generalize ks.getD 0 0 = z at *
        go_wp2
        exact ⟨⟨n', z, hkc.1, by omega, by omega, rfl, HE2, X2⟩, by simp [RowKit.intOf]; omega⟩
    · have hb : (f == 1) = decide (f = 1) := by by_cases h : f = 1 <;> simp [h]
      have HE2 := HE.out
      rw [sayF_end hf, ← hb] at HE2
      have HE3 := hide HE2
      clear HE HE2 hb
      go_wp2
      go_ret
      refine ⟨?_, X1.out⟩
      rw [← HE3.out]
      rfl
end Go.Proofs.Ytkklphmhbbjmcaa
