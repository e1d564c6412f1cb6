/-
  SpanTwo, walked: whatever it is given, it answers true; nothing that was there has turned. Condition: each list takes no more than a process can hold.
-/
import Derived.Test.YtljagefcgijmlaaTwo
import Derived.Test.YtljagefcgijmlaaMakes
namespace Go.Proofs.Ytljagefcgijmlaa
open Go.RowKit Go.Lib

/-- Two lists, lent. -/
structure Ln2 (wR : World) (p q : Nat) (K1 K2 : List Spn) (w : World) : Prop where
  p : OwnS w wR.heap.size (.slice (some ⟨p, 0, none⟩) (K1.length + 4) (K1.length + 4)) (lentL K1)
  q : OwnS w wR.heap.size (.slice (some ⟨q, 0, none⟩) (K2.length + 4) (K2.length + 4)) (lentL K2)
  x : Below wR.heap.size wR w
theorem Ln2.next {wR : World} {p q : Nat} {K1 K2 : List Spn} {w w' : World} (h : Ln2 wR p q K1 K2 w) (x : Below w.heap.size w w') : Ln2 wR p q K1 K2 w' := ⟨h.p.below x, h.q.below x, bt h.x x (Nat.le_refl _)⟩
/-- Four lists of the call's own. -/
structure R4 (b : Nat) (v0 v1 v2 v3 : Value) (A0 A1 A2 A3 : List Spn) (w : World) : Prop where
  r0 : OwnS w b v0 A0
  r1 : OwnS w b v1 A1
  r2 : OwnS w b v2 A2
  r3 : OwnS w b v3 A3
theorem R4.kept {b : Nat} {v0 v1 v2 v3 : Value} {A0 A1 A2 A3 : List Spn} {w w' : World} {F : Nat → Prop} (h : R4 b v0 v1 v2 v3 A0 A1 A2 A3 w) (hk : Kept F w w') (hF : ∀ k, b ≤ k → ¬ F k) : R4 b v0 v1 v2 v3 A0 A1 A2 A3 w' :=
  ⟨h.r0.kept hk (fun k h1 => hF k (h.r0.lt k h1).1), h.r1.kept hk (fun k h1 => hF k (h.r1.lt k h1).1), h.r2.kept hk (fun k h1 => hF k (h.r2.lt k h1).1), h.r3.kept hk (fun k h1 => hF k (h.r3.lt k h1).1)⟩
theorem R4.below {b : Nat} {v0 v1 v2 v3 : Value} {A0 A1 A2 A3 : List Spn} {w w' : World} (h : R4 b v0 v1 v2 v3 A0 A1 A2 A3 w) (x : Below w.heap.size w w') : R4 b v0 v1 v2 v3 A0 A1 A2 A3 w' := ⟨h.r0.below x, h.r1.below x, h.r2.below x, h.r3.below x⟩
theorem R4.mono {b b' : Nat} {v0 v1 v2 v3 : Value} {A0 A1 A2 A3 : List Spn} {w : World} (h : R4 b v0 v1 v2 v3 A0 A1 A2 A3 w) (hb : b' ≤ b) : R4 b' v0 v1 v2 v3 A0 A1 A2 A3 w := ⟨h.r0.mono hb, h.r1.mono hb, h.r2.mono hb, h.r3.mono hb⟩
theorem R4.push {b base n : Nat} {o o' v0 v1 v2 v3 : Value} {xs : List Value} {A0 A1 A2 A3 : List Spn} {w w' : World} (h : R4 b v0 v1 v2 v3 A0 A1 A2 A3 w) (ha : AppAt w w' o o') (ho : w.ownsRow base 22 1 o n xs) : R4 b v0 v1 v2 v3 A0 A1 A2 A3 w' := ⟨pushed ha ho h.r0, pushed ha ho h.r1, pushed ha ho h.r2, pushed ha ho h.r3⟩
/-- AA, with four more. -/
def upd4 (AA : Nat → List Spn) (m : Nat) (A0 A1 A2 A3 : List Spn) (j : Nat) : List Spn := if j = m then A0 else if j = m + 1 then A1 else if j = m + 2 then A2 else if j = m + 3 then A3 else AA j
theorem upd4_old {AA : Nat → List Spn} {m : Nat} {A0 A1 A2 A3 : List Spn} {j : Nat} (h : j < m) : upd4 AA m A0 A1 A2 A3 j = AA j := by
  unfold upd4
  rw [if_neg (by omega), if_neg (by omega), if_neg (by omega), if_neg (by omega)]
theorem upd4_le {AA : Nat → List Spn} {m b : Nat} {A0 A1 A2 A3 : List Spn} (h : ∀ j, (AA j).length ≤ b) (h0 : A0.length ≤ b) (h1 : A1.length ≤ b) (h2 : A2.length ≤ b) (h3 : A3.length ≤ b) : ∀ j, (upd4 AA m A0 A1 A2 A3 j).length ≤ b := by
  intro j
  unfold upd4
  split
  · exact h0
  · split
    · exact h1
    · split
      · exact h2
      · split
        · exact h3
        · exact h j
def four (v0 v1 v2 v3 : Value) (A0 A1 A2 A3 : List Spn) : List LD := [⟨v0, A0.length⟩, ⟨v1, A1.length⟩, ⟨v2, A2.length⟩, ⟨v3, A3.length⟩]
theorem four_is {AA : Nat → List Spn} {m l : Nat} {v0 v1 v2 v3 : Value} {A0 A1 A2 A3 : List Spn} {w : World} {b : Nat} (h : R4 b v0 v1 v2 v3 A0 A1 A2 A3 w) (hl : l = m) : ∀ t (ht : t < (four v0 v1 v2 v3 A0 A1 A2 A3).length), ((four v0 v1 v2 v3 A0 A1 A2 A3)[t]).n = (upd4 AA m A0 A1 A2 A3 (l + t)).length ∧ OwnS w b ((four v0 v1 v2 v3 A0 A1 A2 A3)[t]).v (upd4 AA m A0 A1 A2 A3 (l + t)) := by
  subst hl
  intro t ht
  have e0 : upd4 AA l A0 A1 A2 A3 (l + 0) = A0 := by simp [upd4]
  have e1 : upd4 AA l A0 A1 A2 A3 (l + 1) = A1 := by simp [upd4]
  have e2 : upd4 AA l A0 A1 A2 A3 (l + 2) = A2 := by simp [upd4]
  have e3 : upd4 AA l A0 A1 A2 A3 (l + 3) = A3 := by simp [upd4]
  match t, ht with
  | 0, _ => rw [e0]; exact ⟨rfl, h.r0⟩
  | 1, _ => rw [e1]; exact ⟨rfl, h.r1⟩
  | 2, _ => rw [e2]; exact ⟨rfl, h.r2⟩
  | 3, _ => rw [e3]; exact ⟨rfl, h.r3⟩
theorem four_apart {n0 n1 n2 n3 n4 : Nat} {v0 v1 v2 v3 : Value} {A0 A1 A2 A3 : List Spn} (h0 : ∀ k, v0.ownBlock = some k → n0 ≤ k ∧ k < n1) (h1 : ∀ k, v1.ownBlock = some k → n1 ≤ k ∧ k < n2) (h2 : ∀ k, v2.ownBlock = some k → n2 ≤ k ∧ k < n3) (h3 : ∀ k, v3.ownBlock = some k → n3 ≤ k ∧ k < n4) (a1 : n1 ≤ n2) (a2 : n2 ≤ n3) : ApartL (four v0 v1 v2 v3 A0 A1 A2 A3) := by
  unfold ApartL four
  simp only [List.pairwise_cons, List.mem_cons, List.not_mem_nil, or_false, forall_eq_or_imp, forall_eq, List.Pairwise.nil, and_true, false_implies, implies_true]
  refine ⟨⟨fun k a b => ?_, fun k a b => ?_, fun k a b => ?_⟩, ⟨fun k a b => ?_, fun k a b => ?_⟩, fun k a b => ?_⟩
  · have := h0 k a; have := h1 k b; omega
  · have := h0 k a; have := h2 k b; omega
  · have := h0 k a; have := h3 k b; omega
  · have := h1 k a; have := h2 k b; omega
  · have := h1 k a; have := h3 k b; omega
  · have := h2 k a; have := h3 k b; omega
theorem four_from {n0 : Nat} {v0 v1 v2 v3 : Value} {A0 A1 A2 A3 : List Spn} {w : World} (h : R4 n0 v0 v1 v2 v3 A0 A1 A2 A3 w) : ∀ v ∈ four v0 v1 v2 v3 A0 A1 A2 A3, ∀ k, v.v.ownBlock = some k → n0 ≤ k := by
  intro v hv k hk
  simp only [four, List.mem_cons, List.not_mem_nil, or_false] at hv
  rcases hv with rfl | rfl | rfl | rfl
  · exact (h.r0.lt k hk).1
  · exact (h.r1.lt k hk).1
  · exact (h.r2.lt k hk).1
  · exact (h.r3.lt k hk).1
theorem four_cells (T : TypeId) (w0 : World) (x0 x1 x2 x3 : Value) : ∀ j u, ([x0, x1, x2, x3] : List Value)[j]? = some u → (w0.alloc (.cells #[x0, x1, x2, x3] T)).cell? ((⟨w0.heap.size, 0, none⟩ : Addr).add j) = some u := by
  intro j u hu
  match j, hu with
  | 0, hu => simp at hu; subst hu; simp [Addr.add]
  | 1, hu => simp at hu; subst hu; simp [Addr.add]
  | 2, hu => simp at hu; subst hu; simp [Addr.add]
  | 3, hu => simp at hu; subst hu; simp [Addr.add]

set_option maxRecDepth 100000 in
set_option maxHeartbeats 4000000 in
theorem spanTwo_any (aL aM : Option Addr) (cL cM : Nat) (L M : List Spn) (w : World) (hlL : L.length ≤ 140737488351232) (hlM : M.length ≤ 140737488351232) (hatL : SpAt w aL L) (hatM : SpAt w aM M) :
    Calls Try.prog 4 #[.slice aL L.length cL, .slice aM M.length cM] w fun e w' => e = .returned (.bool true) ∧ Below w.heap.size w w' := by
  have hadd := fun w => addsUp_any (L.length : Int) (M.length : Int) (by omega) (by omega) w
  obtain ⟨L1, hL1⟩ : ∃ LL : Nat → List Spn, LL = fun i => if i = 1 then M else L := ⟨_, rfl⟩
  obtain ⟨p1, hp1⟩ : ∃ aa : Nat → Option Addr, aa = fun i => if i = 1 then aM else aL := ⟨_, rfl⟩
  obtain ⟨q1, hq1⟩ : ∃ cc : Nat → Nat, cc = fun i => if i = 1 then cM else cL := ⟨_, rfl⟩
  obtain ⟨L2, hL2⟩ : ∃ LL : Nat → List Spn, LL = fun i => if i = 0 ∨ i = 3 then M else L := ⟨_, rfl⟩
  obtain ⟨p2, hp2⟩ : ∃ aa : Nat → Option Addr, aa = fun i => if i = 0 ∨ i = 3 then aM else aL := ⟨_, rfl⟩
  obtain ⟨q2, hq2⟩ : ∃ cc : Nat → Nat, cc = fun i => if i = 0 ∨ i = 3 then cM else cL := ⟨_, rfl⟩
  have hll : L.length + M.length ≤ 2147483647 → ∀ i, (L1 i).length ≤ 2147483647 ∧ (L2 i).length ≤ 2147483647 := fun hs i => by rw [hL1, hL2]; simp only []; constructor <;> split <;> omega
  have hsp : ∀ W, Below w.heap.size w W → ∀ i, SpAt W (p1 i) (L1 i) ∧ SpAt W (p2 i) (L2 i) := fun W x i => by
    rw [hL1, hp1, hL2, hp2]; simp only []; constructor <;> split
    · exact hatM.below x
    · exact hatL.below x
    · exact hatM.below x
    · exact hatL.below x
  have hce : ∀ W : World, ∀ i, i < 4 → (W.alloc (.cells #[.slice aL L.length cL, .slice aM M.length cM, .slice aL L.length cL, .slice aL L.length cL] 22)).cell? ⟨W.heap.size, i, none⟩ = some (.slice (p1 i) (L1 i).length (q1 i)) := fun W i hi => by
    rw [hL1, hp1, hq1]
    match i, hi with
    | 0, _ => simp
    | 1, _ => simp
    | 2, _ => simp
    | 3, _ => simp
  have hcf : ∀ W : World, ∀ i, i < 4 → (W.alloc (.cells #[.slice aM M.length cM, .slice aL L.length cL, .slice aL L.length cL, .slice aM M.length cM] 22)).cell? ⟨W.heap.size, i, none⟩ = some (.slice (p2 i) (L2 i).length (q2 i)) := fun W i hi => by
    rw [hL2, hp2, hq2]
    match i, hi with
    | 0, _ => simp
    | 1, _ => simp
    | 2, _ => simp
    | 3, _ => simp
  have HLL := hide hll
  have HSP := hide hsp
  have HCE := hide hce
  have HCF := hide hcf
  obtain ⟨i22, hj, hy0, hy1, hy2⟩ : ∃ i, Try.prog.info? 22 = some i ∧ i.zero = some (.slice none 0 0) ∧ i.size = 1 ∧ i.bytes = 24 := info_parts Try.info22
  clear hll hsp hce hcf hL1 hp1 hq1 hL2 hp2 hq2 hatL hatM
  go_enter Try.func4, Try.ntmps4
  go_wp2_with (first
    | (go_at_call 8; refine (hadd _).mono ?_; rintro e w0 ⟨⟨N, rfl, hN0, hN1, hN2⟩, hw0⟩; subst hw0)
    | (go_at_call 9; refine (awake_any _).mono ?_; rintro e w1 ⟨rfl, x1⟩; have X1 := hide x1; clear x1))
  · go_ret
    exact ⟨rfl, Below.refl _ _⟩
  have hsm : L.length + M.length ≤ 2147483647 := by
    have : N = L.length + M.length := hN2 (by omega)
    omega
  have HLL1 := hide (HLL.out hsm)
  have hc1 := HCE.out w1
  have hz1 : (w1.alloc (.cells #[.slice aL L.length cL, .slice aM M.length cM, .slice aL L.length cL, .slice aL L.length cL] 22)).heap.size = w1.heap.size + 1 := by simp
  have hc2 := HCF.out (w1.alloc (.cells #[.slice aL L.length cL, .slice aM M.length cM, .slice aL L.length cL, .slice aL L.length cL] 22))
  rw [hz1] at hc2
  have hxa := al X1.out (.cells #[.slice aL L.length cL, .slice aM M.length cM, .slice aL L.length cL, .slice aL L.length cL] 22)
  have hxb := al (Below.refl _ (w1.alloc (.cells #[.slice aL L.length cL, .slice aM M.length cM, .slice aL L.length cL, .slice aL L.length cL] 22))) (.cells #[.slice aM M.length cM, .slice aL L.length cL, .slice aL L.length cL, .slice aM M.length cM] 22)
  have HX := hide (bt hxa hxb (Nat.le_refl _))
  have HC1 : Hid (∀ i, i < 4 → ((w1.alloc (.cells #[.slice aL L.length cL, .slice aM M.length cM, .slice aL L.length cL, .slice aL L.length cL] 22)).alloc (.cells #[.slice aM M.length cM, .slice aL L.length cL, .slice aL L.length cL, .slice aM M.length cM] 22)).cell? ⟨w1.heap.size, i, none⟩ = some (.slice (p1 i) (L1 i).length (q1 i))) := fun i hi => (hxb.cell (p := ⟨w1.heap.size, i, none⟩) (by rw [hz1]; simp)).trans (hc1 i hi)
  have HC2 := hide hc2
  have HAB : Hid (w1.heap.size + 1 < ((w1.alloc (.cells #[.slice aL L.length cL, .slice aM M.length cM, .slice aL L.length cL, .slice aL L.length cL] 22)).alloc (.cells #[.slice aM M.length cM, .slice aL L.length cL, .slice aL L.length cL, .slice aM M.length cM] 22)).heap.size) := by unfold Hid; simp
  clear hc1 hc2 hz1 hxa hxb
  generalize (w1.alloc (.cells #[.slice aL L.length cL, .slice aM M.length cM, .slice aL L.length cL, .slice aL L.length cL] 22)).alloc (.cells #[.slice aM M.length cM, .slice aL L.length cL, .slice aL L.length cL, .slice aM M.length cM] 22) = W1 at *
  generalize w1.heap.size = ab at *
  have HSP1 := hide (HSP.out W1 HX.out)
  have HW1 := hide (Nat.le_refl W1.heap.size)
  clear HSP HCE HCF X1 HLL
  go_loopw [8, 9, 10] (fun o wv x wr => ∃ i : Nat, i ≤ 4 ∧ x = .int .i64 i ∧ ∃ AA D E, D.length = 4 * i ∧ E.length = 4 * i ∧ Hid (∀ j, (AA j).length ≤ 4294967296) ∧ ApS W1 W1.heap.size AA o wv D E wr) (fun _ _ x _ => 4 - (RowKit.intOf x).toNat)
  case atStart => exact ⟨0, by omega, rfl, fun _ => [], [], [], rfl, rfl, fun _ => Nat.zero_le _, ApS.nil _ _ _⟩
  case round =>
    obtain ⟨i, hi4, rfl, AA, D, E, hDl, hEl, HAA, S1⟩ := hrel
    by_cases hlt : i < 4
    · have hlt' : (i : Int) < 4 := by omega
      have hx1 : Below W1.heap.size W1 wr := S1.below
      obtain ⟨hs1, hs2⟩ := HSP1.out i
      have HA1 := hide (hs1.below hx1)
      have HA2 := hide (hs2.below hx1)
      have c1 := (hx1.cell (p := ⟨ab, i, none⟩) (by have := HAB.out; simp only []; omega)).trans (HC1.out i hlt)
      have c2 := (hx1.cell (p := ⟨ab + 1, i, none⟩) (by have := HAB.out; simp only []; omega)).trans (HC2.out i hlt)
      have hab : ab < wr.heap.size := by have := HAB.out; have := hx1.size; omega
      have hac : ab + 1 < wr.heap.size := by have := HAB.out; have := hx1.size; omega
      obtain ⟨hk1, hk2⟩ := HLL1.out i
      have HDL := hide hDl
      have HEL := hide hEl
      generalize L1 i = K1 at *
      generalize p1 i = a1 at *
      generalize q1 i = d1 at *
      generalize L2 i = K2 at *
      generalize p2 i = a2 at *
      generalize q2 i = d2 at *
      have i1 : (K1.length : Int) ≤ (K1.length : Int) + 4 := by omega
      have i2 : (K2.length : Int) ≤ (K2.length : Int) + 4 := by omega
      have HWr : Hid (W1.heap.size ≤ wr.heap.size) := hx1.size
      have HCC1 := hide c1
      have HCC2 := hide c2
      clear hs1 hs2 hx1 hDl hEl
      rename World => wR
      have hln1 := lent_any a1 d1 K1 wR (by omega) HA1.out
      have hln2 := fun W (x : Below wR.heap.size wR W) => lent_any a2 d2 K2 W (by omega) (HA2.out.below x)
      have HLN2 := hide hln2
      clear hln2
      go_wp2_with (first
        | (go_at_call 10; refine hln1.mono ?_; rintro e w2 ⟨rfl, o2, x2⟩; have f1 := (x2.cell (p := ⟨ab + 1, i, none⟩) hac).trans HCC2.out; have O2 := hide o2; have X2 := hide x2; clear o2 x2 hln1 c1 c2)
        | (go_at_call 10; refine (HLN2.out w2 X2.out).mono ?_; rintro e w3 ⟨rfl, o3, x3⟩; have LN : Ln2 wR wR.heap.size w2.heap.size K1 K2 w3 := ⟨O2.out.below x3, o3.mono X2.out.size, bt X2.out x3 (Nat.le_refl _)⟩; have HLT : Hid (wR.heap.size < w2.heap.size) := (O2.out.lt wR.heap.size rfl).2; have HLU : Hid (w2.heap.size < w3.heap.size) := (o3.lt w2.heap.size rfl).2; have c1 := (LN.x.cell (p := ⟨ab, i, none⟩) hab).trans HCC1.out; have c2 := (LN.x.cell (p := ⟨ab + 1, i, none⟩) hac).trans HCC2.out; clear o3 x3 f1 HLN2)
        | (go_at_call 21; refine ((union_any _ _ _ _ K1 K2 w3 (lentL_at LN.p) (lentL_at LN.q) (fun x h => by cases h; exact (LN.p.lt _ rfl).2) (fun x h => by cases h; exact (LN.q.lt _ rfl).2) (by omega) (by omega)).mono fun _ _ h => Told.te h).mono ?_; rintro e w4 ⟨⟨v4, A4, E4, rfl, o4, t4⟩, x4⟩; have LN4 := LN.next x4; have O4 := hide o4; have T4 := hide t4; have Y4 := hide x4; clear o4 t4 x4 c1 c2)
        | (go_at_call 22; refine ((meet_any _ _ _ _ K1 K2 w4 (lentL_at LN4.p) (lentL_at LN4.q) (fun x h => by cases h; exact (LN4.p.lt _ rfl).2) (fun x h => by cases h; exact (LN4.q.lt _ rfl).2) (by omega) (by omega)).mono fun _ _ h => Told.te h).mono ?_; rintro e w5 ⟨⟨v5, A5, E5, rfl, o5, t5⟩, x5⟩; have LN5 := LN4.next x5; have O5 := hide o5; have T5 := hide t5; have Y5 := hide x5; clear o5 t5 x5)
        | (go_at_call 23; refine ((less_any _ _ _ _ K1 K2 w5 (lentL_at LN5.p) (lentL_at LN5.q) (fun x h => by cases h; exact (LN5.p.lt _ rfl).2) (fun x h => by cases h; exact (LN5.q.lt _ rfl).2) (by omega) (by omega)).mono fun _ _ h => Told.te h).mono ?_; rintro e w6 ⟨⟨v6, A6, E6, rfl, o6, t6⟩, x6⟩; have LN6 := LN5.next x6; have O6 := hide o6; have T6 := hide t6; have Y6 := hide x6; clear o6 t6 x6)
        | (go_at_call 24; refine ((not_any _ _ K1 w6 (lentL_at LN6.p) (fun x h => by cases h; exact (LN6.p.lt _ rfl).2) (by omega)).mono fun _ _ h => Told.te h).mono ?_; rintro e w7 ⟨⟨v7, A7, E7, rfl, o7, t7⟩, x7⟩; have LN7 := LN6.next x7; have O7 := hide o7; have T7 := hide t7; have Y7 := hide x7; have c1 := (LN7.x.cell (p := ⟨ab, i, none⟩) hab).trans HCC1.out; clear o7 t7 x7)
        | (go_at_call 15; have hR7 : R4 w3.heap.size v4 v5 v6 v7 A4 A5 A6 A7 w7 := ⟨((O4.out.below Y5.out).below Y6.out).below Y7.out, ((O5.out.below Y6.out).below Y7.out).mono Y4.out.size, (O6.out.below Y7.out).mono (Nat.le_trans Y4.out.size Y5.out.size), O7.out.mono (Nat.le_trans Y4.out.size (Nat.le_trans Y5.out.size Y6.out.size))⟩; refine (whole_any a1 wR.heap.size d1 wR.heap.size K1 w7 (by omega) (HA1.out.below LN7.x) LN7.p).mono ?_; rintro e w8 ⟨rfl, k8⟩; have X8 : Hid (Below wR.heap.size wR w8) := (LN7.x.trans (k8.below LN7.x.size (fun b hb => by rw [hb]; exact Nat.le_refl _))); have R8 := hide (hR7.kept k8 (fun k hk h => by have h1 := HLT.out; have h2 := HLU.out; omega)); have Q8 := hide (LN7.q.kept k8 (fun k hk h => by have h3 : w2.heap.size = k := Option.some.inj hk; have h1 := HLT.out; omega)); have c2 := (X8.out.cell (p := ⟨ab + 1, i, none⟩) hac).trans HCC2.out; clear k8 hR7 c1 LN7)
        | (go_at_call 15; refine (whole_any a2 w2.heap.size d2 wR.heap.size K2 w8 (by omega) (HA2.out.below X8.out) Q8.out).mono ?_; rintro e w9 ⟨rfl, k9⟩; have X9 : Hid (Below wR.heap.size wR w9) := (X8.out.trans (k9.below X8.out.size (fun b hb => by rw [hb]; exact Nat.le_of_lt HLT.out))); have R9 := hide (R8.out.kept k9 (fun k hk h => by have h2 := HLU.out; omega)); have c1 := (X9.out.cell (p := ⟨ab, i, none⟩) hab).trans HCC1.out; have e2 := (X9.out.cell (p := ⟨ab + 1, i, none⟩) hac).trans HCC2.out; clear k9 c2))
      have HAP : Hid (ApartL (four v4 v5 v6 v7 A4 A5 A6 A7)) := four_apart O4.out.lt O5.out.lt O6.out.lt O7.out.lt Y5.out.size Y6.out.size
      have HFR : Hid (∀ d ∈ D, ∀ k, d.v.ownBlock = some k → k < wR.heap.size) := fun d hd k hk => by
        obtain ⟨j, hj, rfl⟩ := List.getElem_of_mem hd
        exact (World.ownsRow.lt (S1.ls.each j hj) k hk).2
      have HFO := hide (four_from R9.out)
      have HR3 : Hid (wR.heap.size ≤ w3.heap.size) := Nat.le_of_lt (Nat.lt_trans HLT.out HLU.out)
      clear O4 O5 O6 O7 Y4 Y5 Y6 Y7 LN LN4 LN5 LN6 O2 Q8 X2 X8 R8
      go_region_held3 (fun w' => w'.cell? ⟨ab, i, none⟩ = some (.slice a1 K1.length d1) ∧ w'.cell? ⟨ab + 1, i, none⟩ = some (.slice a2 K2.length d2)) (first | assumption | (simp [go_sem, *]; done))
        (first
          | (go_at_call 25; refine (refUnion_any a1 a2 d1 d2 K1 K2 w9.drew (HA1.out.below X9.out.drew) (HA2.out.below X9.out.drew) (by omega)).mono ?_; rintro e w10 ⟨⟨v10, B, F, he, o, t⟩, x⟩; obtain ⟨hA, hE⟩ := T4.out.one t; rw [hE] at he; subst he; rw [hA] at o; have y : Below w9.heap.size w9 w10 := ((Below.refl _ _).drew.trans x); have Xw10 := hide (bt X9.out y (Nat.le_refl _)); have Yw10 := hide y; have Uw10 := hide o; have g1 : w10.cell? ⟨ab, i, none⟩ = some (.slice a1 K1.length d1) := ((Xw10.out.cell (p := ⟨ab, i, none⟩) hab).trans HCC1.out); have g2 : w10.cell? ⟨ab + 1, i, none⟩ = some (.slice a2 K2.length d2) := ((Xw10.out.cell (p := ⟨ab + 1, i, none⟩) hac).trans HCC2.out); clear y o t x hA hE))
      clear c1 e2
      go_wp2
      go_region_held3 (fun w' => w'.cell? ⟨ab, i, none⟩ = some (.slice a1 K1.length d1) ∧ w'.cell? ⟨ab + 1, i, none⟩ = some (.slice a2 K2.length d2)) (first | assumption | (simp [go_sem, *]; done))
        (first
          | (go_at_call 26; refine (refMeet_any a1 a2 d1 d2 K1 K2 w10.drew (HA1.out.below Xw10.out.drew) (HA2.out.below Xw10.out.drew) (by omega)).mono ?_; rintro e w11 ⟨⟨v11, B, F, he, o, t⟩, x⟩; obtain ⟨hA, hE⟩ := T5.out.one t; rw [hE] at he; subst he; rw [hA] at o; have y : Below w10.heap.size w10 w11 := ((Below.refl _ _).drew.trans x); have Xw11 := hide (bt Xw10.out y (Nat.le_refl _)); have Yw11 := hide y; have Uw11 := hide o; have k1 : w11.cell? ⟨ab, i, none⟩ = some (.slice a1 K1.length d1) := ((Xw11.out.cell (p := ⟨ab, i, none⟩) hab).trans HCC1.out); have k2 : w11.cell? ⟨ab + 1, i, none⟩ = some (.slice a2 K2.length d2) := ((Xw11.out.cell (p := ⟨ab + 1, i, none⟩) hac).trans HCC2.out); clear y o t x hA hE))
      clear g1 g2
      go_wp2
      go_region_held3 (fun w' => w'.cell? ⟨ab, i, none⟩ = some (.slice a1 K1.length d1) ∧ w'.cell? ⟨ab + 1, i, none⟩ = some (.slice a2 K2.length d2)) (first | assumption | (simp [go_sem, *]; done))
        (first
          | (go_at_call 27; refine (refLess_any a1 a2 d1 d2 K1 K2 w11.drew (HA1.out.below Xw11.out.drew) (HA2.out.below Xw11.out.drew) (by omega)).mono ?_; rintro e w12 ⟨⟨v12, B, F, he, o, t⟩, x⟩; obtain ⟨hA, hE⟩ := T6.out.one t; rw [hE] at he; subst he; rw [hA] at o; have y : Below w11.heap.size w11 w12 := ((Below.refl _ _).drew.trans x); have Xw12 := hide (bt Xw11.out y (Nat.le_refl _)); have Yw12 := hide y; have Uw12 := hide o; have m1 : w12.cell? ⟨ab, i, none⟩ = some (.slice a1 K1.length d1) := ((Xw12.out.cell (p := ⟨ab, i, none⟩) hab).trans HCC1.out); have m2 : w12.cell? ⟨ab + 1, i, none⟩ = some (.slice a2 K2.length d2) := ((Xw12.out.cell (p := ⟨ab + 1, i, none⟩) hac).trans HCC2.out); clear y o t x hA hE))
      clear k1 k2
      go_wp2_with (first
        | (go_at_call 28; refine (refNot_any a1 d1 K1 w12 (HA1.out.below Xw12.out) (by omega)).mono ?_; rintro e w13 ⟨⟨v13, B, F, he, o, t⟩, x⟩; obtain ⟨hA, hE⟩ := T7.out.one t; rw [hE] at he; subst he; rw [hA] at o; have X13 := hide (bt Xw12.out x (Nat.le_refl _)); have hq4 : R4 w9.heap.size v10 v11 v12 v13 A4 A5 A6 A7 w13 := ⟨((Uw10.out.below Yw11.out).below Yw12.out).below x, ((Uw11.out.below Yw12.out).below x).mono Yw10.out.size, (Uw12.out.below x).mono (Nat.le_trans Yw10.out.size Yw11.out.size), o.mono (Nat.le_trans Yw10.out.size (Nat.le_trans Yw11.out.size Yw12.out.size))⟩; have Q13 := hide (hq4.mono (Nat.le_trans HWr.out X9.out.size)); have R13 := hide ((((R9.out.below Yw10.out).below Yw11.out).below Yw12.out).below x); have P13 := hide (R13.out.mono (Nat.le_trans HWr.out HR3.out)); obtain ⟨b4, f4, e4, _, _⟩ := R13.out.r0.shape; subst e4; obtain ⟨b5, f5, e5, _, _⟩ := R13.out.r1.shape; subst e5; obtain ⟨b6, f6, e6, _, _⟩ := R13.out.r2.shape; subst e6; obtain ⟨b7, f7, e7, _, _⟩ := R13.out.r3.shape; subst e7; obtain ⟨s4, r4, h4, _, _⟩ := Q13.out.r0.shape; subst h4; obtain ⟨s5, r5, h5, _, _⟩ := Q13.out.r1.shape; subst h5; obtain ⟨s6, r6, h6, _, _⟩ := Q13.out.r2.shape; subst h6; obtain ⟨s7, r7, h7, _, _⟩ := Q13.out.r3.shape; subst h7; have S13 := ((S1.next HW1.out X13.out).congr (AA' := upd4 AA (4 * i) A4 A5 A6 A7) (fun j hj => upd4_old (by have := HDL.out; omega)) (fun j hj => upd4_old (by have := HEL.out; omega))).next HW1.out (al (Below.refl _ w13) (.cells #[.slice b4 A4.length f4, .slice b5 A5.length f5, .slice b6 A6.length f6, .slice b7 A7.length f7] 22)); have P14 := hide (P13.out.below (al (Below.refl _ w13) (.cells #[.slice b4 A4.length f4, .slice b5 A5.length f5, .slice b6 A6.length f6, .slice b7 A7.length f7] 22))); have Q14 := hide (Q13.out.below (al (Below.refl _ w13) (.cells #[.slice b4 A4.length f4, .slice b5 A5.length f5, .slice b6 A6.length f6, .slice b7 A7.length f7] 22))); have HN14 := hide (four_cells 22 w13 (.slice b4 A4.length f4) (.slice b5 A5.length f5) (.slice b6 A6.length f6) (.slice b7 A7.length f7)); clear x o t hA hE hq4 m1 m2 S1)
        | (at_builtin; refine wpList_append_view rfl (.tmp 186) (.tmp 191) 25 rfl W1.heap.size 22 i22 (.slice none 0 0) 1 24 Try.underlying25 hj hy0 hy1 hy2 rfl (by decide) _ D.length (D.map LD.v) rfl S13.ls.row ⟨w13.heap.size, 0, none⟩ 4 4 [.slice b4 A4.length f4, .slice b5 A5.length f5, .slice b6 A6.length f6, .slice b7 A7.length f7] rfl rfl HN14.out (by simp [Value.oneCell']) (by decide) (by have := HDL.out; unfold maxLen; omega) (by have := HDL.out; omega) S13.below.size ?_; intro v15 w15 h1 h2; have S15 := S13.pushO HW1.out (four (.slice b4 A4.length f4) (.slice b5 A5.length f5) (.slice b6 A6.length f6) (.slice b7 A7.length f7) A4 A5 A6 A7) (four_is P14.out HDL.out) HAP.out (fun d hd v hv k h3 h4 => by have h5 := HFR.out d hd k h3; have h6 := HFO.out v hv k h4; have h7 := HR3.out; omega) h1 h2; have S16 := S15.next HW1.out (al (Below.refl _ w15) (.cells #[.slice s4 A4.length r4, .slice s5 A5.length r5, .slice s6 A6.length r6, .slice s7 A7.length r7] 22)); have Q16 := hide ((Q14.out.push h2 S13.ls.row).below (al (Below.refl _ w15) (.cells #[.slice s4 A4.length r4, .slice s5 A5.length r5, .slice s6 A6.length r6, .slice s7 A7.length r7] 22))); have HN16 := hide (four_cells 22 w15 (.slice s4 A4.length r4) (.slice s5 A5.length r5) (.slice s6 A6.length r6) (.slice s7 A7.length r7)); clear h1 h2 S13 S15)
        | (at_builtin; refine wpList_append_view rfl (.tmp 193) (.tmp 198) 25 rfl W1.heap.size 22 i22 (.slice none 0 0) 1 24 Try.underlying25 hj hy0 hy1 hy2 rfl (by decide) _ E.length (E.map LD.v) rfl S16.row ⟨w15.heap.size, 0, none⟩ 4 4 [.slice s4 A4.length r4, .slice s5 A5.length r5, .slice s6 A6.length r6, .slice s7 A7.length r7] rfl rfl HN16.out (by simp [Value.oneCell']) (by decide) (by have := HEL.out; unfold maxLen; omega) (by have := HEL.out; omega) S16.below.size ?_; intro v17 w17 h1 h2; have S17 := hide (S16.pushE HW1.out (four (.slice s4 A4.length r4) (.slice s5 A5.length r5) (.slice s6 A6.length r6) (.slice s7 A7.length r7) A4 A5 A6 A7) (four_is Q16.out HEL.out) h1 h2); clear h1 h2 S16))
      go_roundw
      case rel => exact ⟨i + 1, by omega, by go_num, _, _, _, by rw [List.length_append, HDL.out]; simp [four]; omega, by rw [List.length_append, HEL.out]; simp [four]; omega, upd4_le HAA.out T4.out.len T5.out.len T6.out.len T7.out.len, S17.out⟩
      case measure => simp [RowKit.intOf]; omega
    · have hlt' : ¬ (i : Int) < 4 := by omega
      have h4 : i = 4 := by omega
      have HD4 : Hid (D.length = 16) := by unfold Hid; rw [hDl, h4]
      have HE4 : Hid (E.length = D.length) := hEl.trans hDl.symm
      obtain ⟨ao, co, eo, hpo⟩ := own_shape S1.ls.row
      obtain ⟨ae, ce, ee, hpe⟩ := own_shape S1.row
      rw [HE4.out] at ee
      subst eo ee
      obtain ⟨lo, rfl⟩ := hpo (by have := HD4.out; omega)
      obtain ⟨le, rfl⟩ := hpe (by have := HD4.out; have := HE4.out; omega)
      have hap := S1.done HW1.out HE4.out (by have := HD4.out; omega) (fun j => Nat.le_trans (HAA.out j) (by decide))
      clear h4 hDl hEl hpo hpe S1
      go_wp2_with (go_at_call 20; refine hap.mono ?_; rintro e w9 ⟨rfl, x9⟩; have X9 := hide x9; clear x9)
      go_ret
      exact ⟨rfl, HX.out.trans (X9.out.mono HX.out.size)⟩
end Go.Proofs.Ytljagefcgijmlaa
