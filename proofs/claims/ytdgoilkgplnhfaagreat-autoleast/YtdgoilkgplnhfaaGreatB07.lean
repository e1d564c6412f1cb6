/-
  Whether some number of a list passes a test; the greatest byte. Condition: lists no longer than a process can hold.
-/
import Derived.Test.YtdgoilkgplnhfaaGreatB06
import Derived.Test.YtdgoilkgplnhfaaGreatB04
import Derived.Test.YtdgoilkgplnhfaaGreatB05
import Derived.Carry
import Derived.Deep.DeepCutAuto
namespace Go.Proofs.YtdgoilkgplnhfaaGreat
open Go.RowKit Go.Lib
def ZAt (w : World) (ao : Option Addr) (L : List Int) : Prop := L = [] ∨ ∃ b off, ao = some ⟨b, off, none⟩ ∧ b < w.heap.size ∧ ∀ i (h : i < L.length), w.cell? ⟨b, off + i, none⟩ = some (.int .i64 L[i])
theorem ZAt.below {w w' : World} {ao : Option Addr} {L : List Int} (h : ZAt w ao L) (hb : Below w.heap.size w w') : ZAt w' ao L := by
  rcases h with h | ⟨b, off, h1, h2, h3⟩
  · exact .inl h
  · exact .inr ⟨b, off, h1, Nat.lt_of_lt_of_le h2 hb.size, fun i hi => (hb.cell (p := ⟨b, off + i, none⟩) h2).trans (h3 i hi)⟩
theorem ZAt.get {w : World} {ao : Option Addr} {L : List Int} (h : ZAt w ao L) {i : Nat} (hi : i < L.length) : ∃ b off, ao = some ⟨b, off, none⟩ ∧ w.cell? ⟨b, off + i, none⟩ = some (.int .i64 L[i]) := by
  rcases h with h | ⟨b, off, h1, h2, h3⟩
  · rw [h] at hi; cases hi
  · exact ⟨b, off, h1, h3 i hi⟩
set_option maxRecDepth 100000 in
set_option maxHeartbeats 2000000 in
theorem indexZ_any (fv : Value) (cl : Nat) (caps : List Value) (hfv : fv = .func (.func cl) #[] caps.toArray) (he : ∀ args w, (callFunc cl args).run Tryz.prog w = .ok (.enter cl args) w) (p : Int → Bool) (ao : Option Addr) (cap : Nat) (L : List Int) (w : World) (hl : L.length ≤ 140737488351232) (hat : ZAt w ao L) (hc : ∀ z ∈ L, ∀ W, Below w.heap.size w W → Calls Tryz.prog cl (.int .i64 z :: caps).toArray W fun e w' => e = .returned (.bool (p z)) ∧ Below W.heap.size W w') :
    Calls Tryz.prog 110 #[.slice ao L.length cap, fv] w fun e w' => (∃ i : Int, e = .returned (.int .i64 i) ∧ (0 ≤ i ↔ ∃ x, x ∈ L ∧ p x = true) ∧ -1 ≤ i) ∧ Below w.heap.size w w' := by
  subst hfv
  have HAT := hide hat
  have HC := hide hc
  clear hat hc
  go_enter Tryz.func110, Tryz.ntmps110
  go_wp2
  go_loopg [8] (L.length + 1) (fun g x wr => ∃ k : Nat, x = .int .i64 (k : Nat) ∧ k ≤ L.length ∧ Hid ((L.take k).any p = false) ∧ Hid (Below w.heap.size w wr) ∧ L.length - k < g)
  case atStart => exact ⟨0, rfl, by omega, by simp [Hid], hide (Below.refl _ _), by omega⟩
  case round =>
    obtain ⟨k, rfl, hk1, HA, XB, hg⟩ := hrel
    have HG := hide hg
    clear hg
    by_cases hk : k < L.length
    · have hk' : (k : Int) < (L.length : Int) := by omega
      obtain ⟨b, off, rfl, c0⟩ := (HAT.out.below XB.out).get hk
      obtain ⟨z, hz⟩ : ∃ z, L[k] = z := ⟨_, rfl⟩
      have H1 := hide (HC.out L[k] (List.getElem_mem hk) wr XB.out)
      have HZ : Hid ((L.take (k + 1)).any p = p z) := by unfold Hid; rw [List.take_succ_eq_append_getElem hk, List.any_append, HA.out, hz]; simp
      have HZ2 : Hid (z ∈ L) := by unfold Hid; rw [← hz]; exact List.getElem_mem hk
      rw [hz] at c0 H1
      clear hz
      go_wp2_with (fail)
      refine H1.out.mono ?_
      rintro e w3 ⟨rfl, x3⟩
      have X3 := hide (bt XB.out x3 (Nat.le_refl _))
      clear H1 x3 c0
      cases hp : p z with
      | true =>
        have HP := hide hp
        go_wp2
        go_ret
        exact ⟨⟨_, rfl, ⟨fun _ => ⟨z, HZ2.out, HP.out⟩, fun _ => by omega⟩, by omega⟩, X3.out⟩
      | false =>
        have HZ3 : Hid ((L.take (k + 1)).any p = false) := HZ.out.trans hp
        go_wp2
        go_roundg (L.length - (k + 1) + 1)
        case measure => have := HG.out; omega
        case rel => exact ⟨k + 1, by first | rfl | go_num | (congr 1; omega), by omega, HZ3, X3, by omega⟩
    · have hk' : ¬ (k : Int) < (L.length : Int) := by omega
      obtain rfl : k = L.length := by omega
      have HE : Hid (L.any p = false) := by have := HA.out; rwa [List.take_length] at this
      go_wp2
      go_ret
      exact ⟨⟨-1, rfl, ⟨fun h => by omega, fun h => by obtain ⟨x, h1, h2⟩ := h; have h3 := List.any_eq_true.2 ⟨x, h1, h2⟩; rw [HE.out] at h3; cases h3⟩, by omega⟩, XB.out⟩
set_option maxRecDepth 100000 in
theorem containsZ_any (fv : Value) (cl : Nat) (caps : List Value) (hfv : fv = .func (.func cl) #[] caps.toArray) (he : ∀ args w, (callFunc cl args).run Tryz.prog w = .ok (.enter cl args) w) (p : Int → Bool) (ao : Option Addr) (cap : Nat) (L : List Int) (w : World) (hl : L.length ≤ 140737488351232) (hat : ZAt w ao L) (hc : ∀ z ∈ L, ∀ W, Below w.heap.size w W → Calls Tryz.prog cl (.int .i64 z :: caps).toArray W fun e w' => e = .returned (.bool (p z)) ∧ Below W.heap.size W w') :
    Calls Tryz.prog 76 #[.slice ao L.length cap, fv] w fun e w' => e = .returned (.bool (L.any p)) ∧ Below w.heap.size w w' := by
  have H1 := hide (indexZ_any fv cl caps hfv he p ao cap L w hl hat hc)
  clear hc hat hfv he
  go_enter Tryz.func76, Tryz.ntmps76
  go_wp2_with (fail)
  refine H1.out.mono ?_
  rintro e w2 ⟨⟨i, rfl, hi, _⟩, x2⟩
  have X2 := hide x2
  clear H1 x2
  by_cases h0 : 0 ≤ i
  · have HE : Hid (L.any p = true) := List.any_eq_true.2 (hi.1 h0)
    clear hi
    go_wp2
    go_ret
    exact ⟨by rw [HE.out]; first | rfl | simp_all, X2.out⟩
  · have HE : Hid (L.any p = false) := by
      unfold Hid
      cases hx : L.any p with
      | false => rfl
      | true => exact absurd (hi.2 (List.any_eq_true.1 hx)) h0
    clear hi
    go_wp2
    go_ret
    exact ⟨by rw [HE.out]; first | rfl | simp_all, X2.out⟩
def noneB (n : Nat) (z : Int) : Bool := decide (z < 0 ∨ (n : Int) ≤ z)
set_option maxRecDepth 100000 in
theorem mayBe1_any (oa : Option Addr) (n oc xb : Nat) (z : Int) (w : World) (hc : w.cell? ⟨xb, 2, none⟩ = some (.slice oa n oc)) :
    Calls Tryz.prog 74 #[.int .i64 z, .pointer (some ⟨xb, 0, none⟩)] w fun e w' => e = .returned (.bool (noneB n z)) ∧ Below w.heap.size w w' := by
  by_cases h1 : z < 0
  · have HE : Hid (noneB n z = true) := decide_eq_true (.inl h1)
    go_enter Tryz.func74, Tryz.ntmps74
    go_wp2
    go_ret
    exact ⟨by rw [HE.out]; first | rfl | simp_all, Below.refl _ _⟩
  · by_cases h2 : (n : Int) ≤ z
    · have HE : Hid (noneB n z = true) := decide_eq_true (.inr h2)
      go_enter Tryz.func74, Tryz.ntmps74
      go_wp2
      go_ret
      exact ⟨by rw [HE.out]; first | rfl | simp_all, Below.refl _ _⟩
    · have HE : Hid (noneB n z = false) := decide_eq_false (fun h => by omega)
      go_enter Tryz.func74, Tryz.ntmps74
      go_wp2
      go_ret
      exact ⟨by rw [HE.out]; first | rfl | simp_all, Below.refl _ _⟩
def nlB (z : Int) : Bool := !decide (Lab z)
set_option maxRecDepth 100000 in
theorem mayBe2_any (z : Int) (w : World) : Calls Tryz.prog 75 #[.int .i64 z] w fun e w' => e = .returned (.bool (nlB z)) ∧ Below w.heap.size w w' := by
  have H1 := hide (isLabel_any z w)
  have HE : Hid (nlB z = !decide (Lab z)) := rfl
  generalize decide (Lab z) = b at *
  generalize nlB z = c at *
  go_enter Tryz.func75, Tryz.ntmps75
  go_wp2_with (fail)
  refine H1.out.mono ?_
  rintro e w2 ⟨rfl, hw⟩
  have hw := hw.symm
  subst hw
  go_wp2
  go_ret
  exact ⟨by rw [HE.out]; rfl, Below.refl _ _⟩
def mxL (L : List Nat) : Nat := L.foldl max 0
theorem mxL_snoc (L : List Nat) (x : Nat) : mxL (L ++ [x]) = max (mxL L) x := by simp [mxL, List.foldl_append]
set_option maxRecDepth 100000 in
set_option maxHeartbeats 2000000 in
theorem max_any (xb cap : Nat) (L : List Nat) (w : World) (h0 : 0 < L.length) (hl : L.length ≤ 140737488351232) (hc : ∀ i (h : i < L.length), w.cell? ⟨xb, i, none⟩ = some (.int .u8 (L[i] : Int))) :
    Calls Tryz.prog 73 #[.slice (some ⟨xb, 0, none⟩) L.length cap] w fun e w' => e = .returned (.int .u8 ((mxL L : Nat) : Int)) ∧ w' = w := by
  have c0 := hc 0 h0
  have HC := hide hc
  have h0' : (0 : Int) < (L.length : Int) := by omega
  have h1' : ¬ (L.length : Int) < 1 := by omega
  have HM0 : Hid (mxL (L.take 1) = L[0]) := by
    unfold Hid
    rw [List.take_succ_eq_append_getElem h0, List.take_zero, List.nil_append]
    simp [mxL]
  clear hc
  go_enter Tryz.func73, Tryz.ntmps73
  go_wp2
  go_loopg [3, 4] (L.length + 1) (fun g m x wr => ∃ k : Nat, x = .int .i64 (k : Nat) ∧ k ≤ L.length ∧ m = .int .u8 ((mxL (L.take k) : Nat) : Int) ∧ wr = w ∧ L.length - k < g)
  case atStart => exact ⟨1, rfl, by omega, by rw [HM0.out], rfl, by omega⟩
  case round =>
    obtain ⟨k, rfl, hk1, rfl, rfl, hg⟩ := hrel
    have HG := hide hg
    clear hg c0
    by_cases hk : k < L.length
    · have hk' : (k : Int) < (L.length : Int) := by omega
      have c1 := HC.out k hk
      have HM : Hid (mxL (L.take (k + 1)) = max (mxL (L.take k)) L[k]) := by unfold Hid; rw [List.take_succ_eq_append_getElem hk, mxL_snoc]
      generalize L[k] = y at *
      generalize mxL (L.take k) = m at *
      go_wp2
      all_goals
        go_roundg (L.length - (k + 1) + 1)
        case measure => have := HG.out; omega
        case rel => exact ⟨k + 1, by first | rfl | go_num | (congr 1; omega), by omega, by rw [HM.out]; first | rfl | (congr 1; omega), by first | rfl | trivial, by omega⟩
    · have hk' : ¬ (k : Int) < (L.length : Int) := by omega
      obtain rfl : k = L.length := by omega
      have HE : Hid (mxL (L.take L.length) = mxL L) := by unfold Hid; rw [List.take_length]
      rw [HE.out]
      go_wp2
      go_ret
      exact ⟨rfl, rfl⟩
end Go.Proofs.YtdgoilkgplnhfaaGreat
namespace Go.Proofs.YtdgoilkgplnhfaaGreat
open Go.RowKit Go.Lib Go.Maps
structure NmDone (base : Nat) (lit : Nat → Lit) (N : Nat) (v1 v2 : Value) (num fst : List Nat) (w : World) : Prop where
  o1 : OwnN w base v1 num
  o2 : OwnN w base v2 fst
  ap : ∀ b, v1.ownBlock = some b → ¬ v2.ownBlock = some b
  len : num.length = N
  nf : NumF lit N (gN num) (gN fst) fst.length
theorem NmS.start (k : TypeId) (w : World) (lit : Nat → Lit) (N : Nat) (w2 : World) (h1 : w2.ownsRow w.heap.size 3 1 (.slice (some ⟨(w.alloc (.map #[] 0)).heap.size, 0, none⟩) N N) N (madeCells (Value.int .i64 0).cells (N * 1)).toList) (h2 : (w.alloc (.map #[] 0)).grownBy w2 none) :
    NmS k w lit N w.heap.size (.slice (some ⟨w.heap.size + 1, 0, none⟩) N N) (.slice none 0 0) [] [] w2 := by
  rw [show (w.alloc (.map #[] 0)).heap.size = w.heap.size + 1 by simp] at h1
  have x0 : Below w.heap.size w (w.alloc (.map #[] 0)) := al (Below.refl _ _) _
  have x2 := below_of_grown h2
  refine ⟨(MpAt.made k w).below x2, ?_, OwnN.nil _ _, fun b _ h => (by cases h), Nat.le_refl _, NumF.nil, Nat.zero_le _, bt x0 x2 (Nat.le_refl _), fun b h => (by cases h)⟩
  unfold OwnN
  rw [made_nums] at h1
  simpa using h1
theorem slotN {w : World} {base g N : Nat} {L : List Nat} (h : OwnN w base (.slice (some ⟨g, 0, none⟩) N N) L) {i : Nat} (hi : i < L.length) : (∃ u, w.cell? ⟨g, i, none⟩ = some u) ∧ w.frozen? ⟨g, i, none⟩ = false := by
  refine ⟨⟨_, h.cell hi⟩, ?_⟩
  have hh : w.ownsRow base 3 1 (.slice (some ⟨g, 0, none⟩) N N) L.length (nCells L) := h
  have hn : N = L.length := by
    rcases hh.2 with ⟨e, e2⟩ | ⟨g', c', cur, e, _⟩
    · cases e
    · injection e with _ e2 _
  subst hn
  exact hh.frozenAt _
theorem one_int (W : World) (n : Nat) (T : TypeId) (j : Nat) (u : Value) (hu : ([.int .i64 (n : Nat)] : List Value)[j]? = some u) : (W.alloc (.cells #[.int .i64 (n : Nat)] T)).cell? ((⟨W.heap.size, 0, none⟩ : Addr).add j) = some u := by
  match j, hu with
  | 0, hu => simp at hu; subst hu; simp [Addr.add]
section
variable {k : TypeId} {w0 w w' : World} {lit : Nat → Lit} {N mb g : Nat} {v2 : Value} {num fst : List Nat}
theorem NmS.slot (h : NmS k w0 lit N mb (.slice (some ⟨g, 0, none⟩) N N) v2 num fst w) (hi : num.length < N) : (∃ u, w.cell? ⟨g, num.length, none⟩ = some u) ∧ w.frozen? ⟨g, num.length, none⟩ = false :=
  slotN h.o1 (by rw [List.length_append, List.length_replicate]; omega)
theorem NmS.hit (h : NmS k w0 lit N mb (.slice (some ⟨g, 0, none⟩) N N) v2 num fst w) (hi : num.length < N) {n : Nat} (hn : n < fst.length) (he : lit (gN fst n) = lit num.length) :
    NmS k w0 lit N mb (.slice (some ⟨g, 0, none⟩) N N) v2 (num ++ [n]) fst (w.setCell ⟨g, num.length, none⟩ (.int .i64 (n : Int))) := by
  obtain ⟨o1, k1⟩ := OwnN.store h.o1 num.length n
  rw [set_next num hi] at o1
  have hgb := (World.ownsRow.lt (show w.ownsRow w0.heap.size 3 1 (.slice (some ⟨g, 0, none⟩) N N) _ (nCells _) from h.o1) g rfl).1
  refine ⟨h.map.kept k1 (fun e => own_ne_map h.map h.o1 (by rw [e]; rfl)), o1, own_kept h.o2 k1 (fun b hb e => h.ap b (by rw [e]; rfl) hb), h.ap, h.mge, ?_, by rw [List.length_append, List.length_singleton]; omega, h.bel.trans (k1.below h.bel.size (fun i hi => by omega)), h.v2ne⟩
  rw [List.length_append, List.length_singleton]
  exact h.nf.hit hn he
structure NmP (k : TypeId) (w0 : World) (lit : Nat → Lit) (N mb g : Nat) (v2 : Value) (num fst : List Nat) (w : World) : Prop where
  map : MpAt k w mb (fst.map lit ++ [lit num.length])
  o1 : OwnN w w0.heap.size (.slice (some ⟨g, 0, none⟩) N N) (num ++ List.replicate (N - num.length) 0)
  o2 : OwnN w w0.heap.size v2 fst
  ap : ∀ b, (.slice (some ⟨g, 0, none⟩) N N : Value).ownBlock = some b → ¬ v2.ownBlock = some b
  mge : w0.heap.size ≤ mb
  nf : NumF lit (num.length + 1) (gN (num ++ [fst.length])) (gN (fst ++ [num.length])) (fst.length + 1)
  bel : Below w0.heap.size w0 w
theorem NmS.put (h : NmS k w0 lit N mb (.slice (some ⟨g, 0, none⟩) N N) v2 num fst w) {D : DataW Unit} (hm : lit num.length ∉ fst.map lit) (hk : WideAt.IsKeyLit (lit num.length)) (hh : ∀ kl, Maps.has D kl = true ↔ kl ∈ fst.map lit) (ha : ∀ i (h : i < (fst.map lit).length), D.atKey (fst.map lit)[i] (.lit (.int .i64 0)) = .lit (.int .i64 (i : Int)))
    (ho : w.ownsMap Tryz.prog k (plainElem Tryz.prog 3) mb (fst.map lit).length D) (h1 : w'.ownsMap Tryz.prog k (plainElem Tryz.prog 3) mb ((fst.map lit).length + 1) (D.put (lit num.length) (.lit (.int .i64 (fst.length : Int))))) (t4 : w.mapTurned w' mb) : NmP k w0 lit N mb g v2 num fst w' := by
  have k4 : Kept (fun b => b = mb) w w' := (kept_of_grown t4.grown).mono (fun b hb => by injection hb with hb; exact hb.symm)
  refine ⟨MpAt.put hk hm ho.isMap hh ha (by rw [List.length_map] at h1 ⊢; exact h1), own_kept h.o1 k4 (fun b hb e => own_ne_map h.map h.o1 (by rw [← e]; exact hb)), own_kept h.o2 k4 (fun b hb e => own_ne_map h.map h.o2 (by rw [← e]; exact hb)), h.ap, h.mge, h.nf.miss (fun i hi he => hm ?_), h.bel.trans (k4.below h.bel.size (fun i hi => by have := h.mge; omega))⟩
  rw [← he, gN_lt hi]
  exact List.mem_map.2 ⟨_, List.getElem_mem hi, rfl⟩
theorem NmP.x5 (w : World) (n : Nat) : Below w.heap.size w (w.alloc (.cells #[.int .i64 (n : Nat)] 3)) := al (Below.refl _ _) _
theorem NmP.o5 (h : NmP k w0 lit N mb g v2 num fst w) : (w.alloc (.cells #[.int .i64 (num.length : Nat)] 3)).ownsRow w0.heap.size 3 1 v2 fst.length (nCells fst) := own_below h.o2 (NmP.x5 _ _)
theorem NmP.s5 (h : NmP k w0 lit N mb g v2 num fst w) : w0.heap.size ≤ (w.alloc (.cells #[.int .i64 (num.length : Nat)] 3)).heap.size := Nat.le_trans h.bel.size (NmP.x5 w num.length).size
theorem NmP.app (h : NmP k w0 lit N mb g v2 num fst w) (hi : num.length < N) {v' : Value} {w6 : World} (g1 : w6.ownsRow w0.heap.size 3 1 v' (fst.length + 1) (nCells fst ++ [.int .i64 (num.length : Nat)])) (g2 : AppAt (w.alloc (.cells #[.int .i64 (num.length : Nat)] 3)) w6 v2 v') :
    ((∃ u, w6.cell? ⟨g, num.length, none⟩ = some u) ∧ w6.frozen? ⟨g, num.length, none⟩ = false) ∧ NmS k w0 lit N mb (.slice (some ⟨g, 0, none⟩) N N) v' (num ++ [fst.length]) (fst ++ [num.length]) (w6.setCell ⟨g, num.length, none⟩ (.int .i64 (fst.length : Int))) := by
  have x5 := NmP.x5 w num.length
  have o1 : OwnN (w.alloc (.cells #[.int .i64 (num.length : Nat)] 3)) w0.heap.size (.slice (some ⟨g, 0, none⟩) N N) (num ++ List.replicate (N - num.length) 0) := own_below h.o1 x5
  have m5 := h.map.below x5
  have b5 := bt h.bel x5 (Nat.le_refl _)
  have hk : ∃ F : Nat → Prop, Kept F (w.alloc (.cells #[.int .i64 (num.length : Nat)] 3)) w6 ∧ (∀ b, F b → v2.ownBlock = some b) := by
    rcases g2 with ⟨q, a, b, c⟩ | ⟨a, b⟩
    · exact ⟨fun b => some q = some b, kept_of_grown c, fun b hb => a.trans hb⟩
    · exact ⟨fun _ => False, Kept.of_below (below_of_grown a), fun b hb => hb.elim⟩
  obtain ⟨F, k6, hF⟩ := hk
  have o6 : OwnN w6 w0.heap.size (.slice (some ⟨g, 0, none⟩) N N) (num ++ List.replicate (N - num.length) 0) := own_kept o1 k6 (fun b hb hf => h.ap b hb (hF b hf))
  have m6 := m5.kept k6 (fun hf => own_ne_map m5 h.o5 (hF _ hf))
  have b6 : Below w0.heap.size w0 w6 := b5.trans (k6.below b5.size (fun i hf => (World.ownsRow.lt h.o5 i (hF i hf)).1))
  obtain ⟨o7, k7⟩ := OwnN.store o6 num.length fst.length
  rw [set_next num hi] at o7
  have hgl := World.ownsRow.lt (show w.ownsRow w0.heap.size 3 1 (.slice (some ⟨g, 0, none⟩) N N) _ (nCells _) from h.o1) g rfl
  have ap' : ∀ b, (.slice (some ⟨g, 0, none⟩) N N : Value).ownBlock = some b → ¬ v'.ownBlock = some b := fun b hb hv => by
    rcases g2 with ⟨q, a, c, _⟩ | ⟨_, c⟩
    · exact h.ap b hb (by rw [a, ← c]; exact hv)
    · have := c b hv
      have hb' : g = b := Option.some.inj hb
      have := x5.size
      omega
  refine ⟨slotN o6 (by rw [List.length_append, List.length_replicate]; omega), m6.kept k7 (fun e => own_ne_map m6 o6 (by rw [e]; rfl)) |> fun m => by rw [List.map_append]; exact m, o7, ?_, ap', h.mge, ?_, by rw [List.length_append, List.length_singleton]; omega, b6.trans (k7.below b6.size (fun i hi => by omega)), fun b hb e => own_ne_map m6 g1 (by rw [← e]; exact hb)⟩
  · unfold OwnN
    rw [nCells_snoc, List.length_append, List.length_singleton]
    exact own_kept g1 k7 (fun b hb e => ap' b (by rw [e]; rfl) hb)
  · rw [List.length_append, List.length_append, List.length_singleton]
    exact h.nf
end
set_option maxRecDepth 100000 in
set_option maxHeartbeats 4000000 in
theorem numI_any (N : Nat) (c0 : Value) (look : Nat → Value) (lit : Nat → Lit) (w : World) (hN : N ≤ 4294967296) (hk : ∀ i, i < N → keyOf Tryz.prog 3 (look i) = some (lit i)) (hkl : ∀ i, i < N → WideAt.IsKeyLit (lit i))
    (hc : ∀ i, i < N → ∀ W, Below w.heap.size w W → Calls Tryz.prog 121 #[.int .i64 (i : Nat), c0] W fun e w' => e = .returned (look i) ∧ Below W.heap.size W w') :
    Calls Tryz.prog 120 #[.int .i64 (N : Nat), .func (.func 121) #[] #[c0]] w fun e w' => (∃ v1 v2, e = .returned (.tuple #[v1, v2]) ∧ ∃ num fst, NmDone w.heap.size lit N v1 v2 num fst w') ∧ Below w.heap.size w w' := by
  obtain ⟨i3, hi3, hz30, hz31, hz32⟩ := info_parts Tryz.info3n
  have hz0 : ∀ W, (zeroValue 3).run Tryz.prog W = .ok (.int .i64 0) W := fun W => Tryz.zeroValue3 W
  have hmm : ∀ W : World, (Instr.makeMap 192 none).run Tryz.prog W = .ok (.map (some W.heap.size)) (W.alloc (.map #[] 0)) := fun W => rfl
  have HC := hide hc
  have HK := hide hk
  have HKL := hide hkl
  clear hc hk hkl
  have S0 := hide (fun w2 h1 h2 => NmS.start 3 w lit N w2 h1 h2)
  go_enter Tryz.func120, Tryz.ntmps120
  go_wp2_with (at_make; refine wpList_make_full _ rfl (.tmp 12) (.tmp 12) 22 rfl w.heap.size 3 i3 (.int .i64 0) 1 Tryz.underlying22 hi3 hz30 hz31 .i64 .i64 _ _ N rfl rfl rfl rfl (by rw [hz32]; omega) (by unfold maxLen; omega) (by simp) ?_; intro w2 h1 h2; have S1 := hide (S0.out w2 h1 h2); clear h1 h2)
  go_loopg [5, 15] (N + 1) (fun g v2 x wr => ∃ (num fst : List Nat), x = .int .i64 (num.length : Nat) ∧ Hid (NmS 3 w lit N w.heap.size (.slice (some ⟨w.heap.size + 1, 0, none⟩) N N) v2 num fst wr) ∧ N - num.length < g)
  case atStart => exact ⟨[], [], rfl, S1, by simp⟩
  case round =>
    obtain ⟨num, fst, rfl, S, hg⟩ := hrel
    have HG := hide hg
    clear hg S1 S0
    have hle := S.out.le
    obtain ⟨a2, k2, hv2, _⟩ := own_shape S.out.o2
    subst hv2
    by_cases hi : num.length < N
    · have hi' : (num.length : Int) < (N : Int) := by omega
      have H1 := hide (HC.out num.length hi wr S.out.bel)
      go_wp2_with (fail)
      refine H1.out.mono ?_
      rintro e w3 ⟨rfl, x3⟩
      clear H1
      have S3 := hide (S.out.below x3)
      clear x3
      obtain ⟨D, hown, hh, ha⟩ := S3.out.map
      have HK1 := hide (HK.out num.length hi)
      have HOWN := hide hown
      have HA := hide ha
      have hfl : fst.length ≤ num.length := by
        have h := S3.out.nf
        exact pigeon num.length fst.length (gN fst) h.fstlt (fun i h1 j h2 e => by rw [← h.numfst i h1, ← h.numfst j h2, e])
      by_cases hm : lit num.length ∈ fst.map lit
      · have hhas : Maps.has D (lit num.length) = true := (hh _).2 hm
        have HHIT : Hid (∀ c : Int, D.atKey (lit num.length) (.lit (.int .i64 0)) = .lit (.int .i64 c) → ∃ n, n < fst.length ∧ lit (gN fst n) = lit num.length ∧ c = (n : Int)) := fun c hc => by
          obtain ⟨n, hn, e, rfl⟩ := atKey_lit HA.out hc hm
          rw [List.length_map] at hn
          refine ⟨n, hn, ?_, rfl⟩
          rw [← e, List.getElem_map, gN_lt hn]
        obtain ⟨⟨u1, q1⟩, q2⟩ := S3.out.slot hi
        have HST := hide (fun n hn he => S3.out.hit (n := n) hi hn he)
        go_wp2_with (at_lookup; refine wpList_lookup_own_ok_int _ rfl _ _ 192 rfl 3 3 .i64 (int_keyed Tryz.underlying3) Tryz.underlying192 Tryz.underlying3 (hz0 _) w.heap.size _ D rfl HOWN.out _ _ rfl HK1.out ?_; intro c hat hwc; obtain ⟨n, hn, hne, rfl⟩ := HHIT.out c hat; have S4 := hide (HST.out n hn hne); clear hat hwc hn hne)
        go_roundg (N - (num.length + 1) + 1)
        case measure => have := HG.out; omega
        case rel => exact ⟨num ++ [n], fst, by simp, S4, by simp⟩
      · have hhas : Maps.has D (lit num.length) = false := by
          cases hx : Maps.has D (lit num.length) with
          | false => rfl
          | true => exact absurd ((hh _).1 hx) hm
        have HPL : Hid (plainElem (H := Unit) Tryz.prog 3 (.int .i64 (fst.length : Int)) = some (.lit (.int .i64 (fst.length : Int)), [])) := plainElem_int Tryz.underlying3 (by simp [Lit.wf, IntKind.min, IntKind.max, IntKind.signed, IntKind.bits]; omega)
        have HFN : Hid ((fst.map lit).length < maxLen) := by unfold Hid maxLen; rw [List.length_map]; omega
        have HPUT := hide (fun (w4 : World) h1 (t4 : w3.mapTurned w4 w.heap.size) => S3.out.put (w' := w4) hm (HKL.out _ hi) hh ha HOWN.out h1 t4)
        go_wp2_with (first
          | (at_lookup; refine wpList_lookup_own_ok_int _ rfl _ _ 192 rfl 3 3 .i64 (int_keyed Tryz.underlying3) Tryz.underlying192 Tryz.underlying3 (hz0 _) w.heap.size _ D rfl HOWN.out _ _ rfl HK1.out ?_; intro c hat hwc; clear hat hwc)
          | (at_mapUpdate; refine wpList_mapUpdate_in _ rfl _ _ _ 192 rfl 3 3 (int_keyed Tryz.underlying3) Tryz.underlying192 _ w.heap.size _ D rfl HOWN.out HFN.out _ _ _ rfl rfl HK1.out _ [] HPL.out ?_; intro w4 h4 t4; have S4 := hide (HPUT.out w4 h4 t4); have O5 := hide S4.out.o5; have HN5 := hide (one_int w4 num.length 3); have HS5 : Hid (w.heap.size ≤ (w4.alloc (.cells #[.int .i64 (num.length : Nat)] 3)).heap.size) := S4.out.s5; clear h4 t4)
          | (at_builtin; refine wpList_append_view rfl (.tmp 34) (.tmp 36) 22 rfl w.heap.size 3 i3 (.int .i64 0) 1 8 Tryz.underlying22 hi3 hz30 hz31 hz32 rfl (by decide) _ fst.length (nCells fst) rfl O5.out ⟨w4.heap.size, 0, none⟩ 1 1 [.int .i64 (num.length : Nat)] rfl rfl HN5.out (by simp [Value.oneCell']) (by decide) (by unfold maxLen; omega) (by omega) HS5.out ?_; intro v6 w6 g1 g2; obtain ⟨⟨⟨u6, q1⟩, q2⟩, S6⟩ := S4.out.app hi g1 g2; have S6 := hide S6; clear g1 g2))
        go_roundg (N - (num.length + 1) + 1)
        case measure => have := HG.out; omega
        case rel => exact ⟨num ++ [fst.length], fst ++ [num.length], by simp, S6, by simp⟩
    · have hi' : ¬ (num.length : Int) < (N : Int) := by omega
      go_wp2
      go_ret2
      refine ⟨⟨_, _, rfl, num, fst, ?_⟩, S.out.bel⟩
      have e : num.length = N := by omega
      have h1 := S.out.o1
      rw [e, Nat.sub_self, List.replicate_zero, List.append_nil] at h1
      exact ⟨h1, S.out.o2, S.out.ap, e, by have := S.out.nf; rw [e] at this; exact this⟩
set_option maxRecDepth 100000 in
set_option maxHeartbeats 4000000 in
theorem numB_any (N : Nat) (c0 : Value) (look : Nat → Value) (lit : Nat → Lit) (w : World) (hN : N ≤ 4294967296) (hk : ∀ i, i < N → keyOf Tryz.prog 5 (look i) = some (lit i)) (hkl : ∀ i, i < N → WideAt.IsKeyLit (lit i))
    (hc : ∀ i, i < N → ∀ W, Below w.heap.size w W → Calls Tryz.prog 112 #[.int .i64 (i : Nat), c0] W fun e w' => e = .returned (look i) ∧ Below W.heap.size W w') :
    Calls Tryz.prog 111 #[.int .i64 (N : Nat), .func (.func 112) #[] #[c0]] w fun e w' => (∃ v1 v2, e = .returned (.tuple #[v1, v2]) ∧ ∃ num fst, NmDone w.heap.size lit N v1 v2 num fst w') ∧ Below w.heap.size w w' := by
  obtain ⟨i3, hi3, hz30, hz31, hz32⟩ := info_parts Tryz.info3n
  have hz0 : ∀ W, (zeroValue 3).run Tryz.prog W = .ok (.int .i64 0) W := fun W => Tryz.zeroValue3 W
  have hmm : ∀ W : World, (Instr.makeMap 186 none).run Tryz.prog W = .ok (.map (some W.heap.size)) (W.alloc (.map #[] 0)) := fun W => rfl
  have HC := hide hc
  have HK := hide hk
  have HKL := hide hkl
  clear hc hk hkl
  have S0 := hide (fun w2 h1 h2 => NmS.start 5 w lit N w2 h1 h2)
  go_enter Tryz.func111, Tryz.ntmps111
  go_wp2_with (at_make; refine wpList_make_full _ rfl (.tmp 12) (.tmp 12) 22 rfl w.heap.size 3 i3 (.int .i64 0) 1 Tryz.underlying22 hi3 hz30 hz31 .i64 .i64 _ _ N rfl rfl rfl rfl (by rw [hz32]; omega) (by unfold maxLen; omega) (by simp) ?_; intro w2 h1 h2; have S1 := hide (S0.out w2 h1 h2); clear h1 h2)
  go_loopg [5, 15] (N + 1) (fun g v2 x wr => ∃ (num fst : List Nat), x = .int .i64 (num.length : Nat) ∧ Hid (NmS 5 w lit N w.heap.size (.slice (some ⟨w.heap.size + 1, 0, none⟩) N N) v2 num fst wr) ∧ N - num.length < g)
  case atStart => exact ⟨[], [], rfl, S1, by simp⟩
  case round =>
    obtain ⟨num, fst, rfl, S, hg⟩ := hrel
    have HG := hide hg
    clear hg S1 S0
    have hle := S.out.le
    obtain ⟨a2, k2, hv2, _⟩ := own_shape S.out.o2
    subst hv2
    by_cases hi : num.length < N
    · have hi' : (num.length : Int) < (N : Int) := by omega
      have H1 := hide (HC.out num.length hi wr S.out.bel)
      go_wp2_with (fail)
      refine H1.out.mono ?_
      rintro e w3 ⟨rfl, x3⟩
      clear H1
      have S3 := hide (S.out.below x3)
      clear x3
      obtain ⟨D, hown, hh, ha⟩ := S3.out.map
      have HK1 := hide (HK.out num.length hi)
      have HOWN := hide hown
      have HA := hide ha
      have hfl : fst.length ≤ num.length := by
        have h := S3.out.nf
        exact pigeon num.length fst.length (gN fst) h.fstlt (fun i h1 j h2 e => by rw [← h.numfst i h1, ← h.numfst j h2, e])
      by_cases hm : lit num.length ∈ fst.map lit
      · have hhas : Maps.has D (lit num.length) = true := (hh _).2 hm
        have HHIT : Hid (∀ c : Int, D.atKey (lit num.length) (.lit (.int .i64 0)) = .lit (.int .i64 c) → ∃ n, n < fst.length ∧ lit (gN fst n) = lit num.length ∧ c = (n : Int)) := fun c hc => by
          obtain ⟨n, hn, e, rfl⟩ := atKey_lit HA.out hc hm
          rw [List.length_map] at hn
          refine ⟨n, hn, ?_, rfl⟩
          rw [← e, List.getElem_map, gN_lt hn]
        obtain ⟨⟨u1, q1⟩, q2⟩ := S3.out.slot hi
        have HST := hide (fun n hn he => S3.out.hit (n := n) hi hn he)
        go_wp2_with (at_lookup; refine wpList_lookup_own_ok_int _ rfl _ _ 186 rfl 5 3 .i64 (int_keyed Tryz.underlying5) Tryz.underlying186 Tryz.underlying3 (hz0 _) w.heap.size _ D rfl HOWN.out _ _ rfl HK1.out ?_; intro c hat hwc; obtain ⟨n, hn, hne, rfl⟩ := HHIT.out c hat; have S4 := hide (HST.out n hn hne); clear hat hwc hn hne)
        go_roundg (N - (num.length + 1) + 1)
        case measure => have := HG.out; omega
        case rel => exact ⟨num ++ [n], fst, by simp, S4, by simp⟩
      · have hhas : Maps.has D (lit num.length) = false := by
          cases hx : Maps.has D (lit num.length) with
          | false => rfl
          | true => exact absurd ((hh _).1 hx) hm
        have HPL : Hid (plainElem (H := Unit) Tryz.prog 3 (.int .i64 (fst.length : Int)) = some (.lit (.int .i64 (fst.length : Int)), [])) := plainElem_int Tryz.underlying3 (by simp [Lit.wf, IntKind.min, IntKind.max, IntKind.signed, IntKind.bits]; omega)
        have HFN : Hid ((fst.map lit).length < maxLen) := by unfold Hid maxLen; rw [List.length_map]; omega
        have HPUT := hide (fun (w4 : World) h1 (t4 : w3.mapTurned w4 w.heap.size) => S3.out.put (w' := w4) hm (HKL.out _ hi) hh ha HOWN.out h1 t4)
        go_wp2_with (first
          | (at_lookup; refine wpList_lookup_own_ok_int _ rfl _ _ 186 rfl 5 3 .i64 (int_keyed Tryz.underlying5) Tryz.underlying186 Tryz.underlying3 (hz0 _) w.heap.size _ D rfl HOWN.out _ _ rfl HK1.out ?_; intro c hat hwc; clear hat hwc)
          | (at_mapUpdate; refine wpList_mapUpdate_in _ rfl _ _ _ 186 rfl 5 3 (int_keyed Tryz.underlying5) Tryz.underlying186 _ w.heap.size _ D rfl HOWN.out HFN.out _ _ _ rfl rfl HK1.out _ [] HPL.out ?_; intro w4 h4 t4; have S4 := hide (HPUT.out w4 h4 t4); have O5 := hide S4.out.o5; have HN5 := hide (one_int w4 num.length 3); have HS5 : Hid (w.heap.size ≤ (w4.alloc (.cells #[.int .i64 (num.length : Nat)] 3)).heap.size) := S4.out.s5; clear h4 t4)
          | (at_builtin; refine wpList_append_view rfl (.tmp 34) (.tmp 36) 22 rfl w.heap.size 3 i3 (.int .i64 0) 1 8 Tryz.underlying22 hi3 hz30 hz31 hz32 rfl (by decide) _ fst.length (nCells fst) rfl O5.out ⟨w4.heap.size, 0, none⟩ 1 1 [.int .i64 (num.length : Nat)] rfl rfl HN5.out (by simp [Value.oneCell']) (by decide) (by unfold maxLen; omega) (by omega) HS5.out ?_; intro v6 w6 g1 g2; obtain ⟨⟨⟨u6, q1⟩, q2⟩, S6⟩ := S4.out.app hi g1 g2; have S6 := hide S6; clear g1 g2))
        go_roundg (N - (num.length + 1) + 1)
        case measure => have := HG.out; omega
        case rel => exact ⟨num ++ [fst.length], fst ++ [num.length], by simp, S6, by simp⟩
    · have hi' : ¬ (num.length : Int) < (N : Int) := by omega
      go_wp2
      go_ret2
      refine ⟨⟨_, _, rfl, num, fst, ?_⟩, S.out.bel⟩
      have e : num.length = N := by omega
      have h1 := S.out.o1
      rw [e, Nat.sub_self, List.replicate_zero, List.append_nil] at h1
      exact ⟨h1, S.out.o2, S.out.ap, e, by have := S.out.nf; rw [e] at this; exact this⟩
end Go.Proofs.YtdgoilkgplnhfaaGreat
