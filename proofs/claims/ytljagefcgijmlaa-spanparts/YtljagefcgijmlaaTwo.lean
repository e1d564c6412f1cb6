/-
  The document's Union, Meet, Less, Not by their contracts. Condition: the lists have fewer than 2^32 spans together.
-/
import Derived.Test.YtljagefcgijmlaaLng
import Derived.Test.YtljagefcgijmlaaOps
namespace Go.Proofs.Ytljagefcgijmlaa
open Go.RowKit Go.Lib

/-- Places of lists. -/
structure PlP (S : List (List Spn)) (P : List Int) : Prop where
  up : P.Pairwise (· < ·)
  mem : ∀ x, x ∈ P ↔ x ∈ [0, 4294967296] ++ allZ S
theorem mem_allZ {S : List (List Spn)} {x : Int} : x ∈ allZ S ↔ ∃ L ∈ S, ∃ s ∈ L, x = s.1 ∨ x = s.2 + 1 := by
  simp only [allZ, endsZ, List.mem_flatMap, List.mem_cons, List.not_mem_nil, or_false]
theorem PlP.bound {S : List (List Spn)} {P : List Int} (h : PlP S P) (hS : ∀ L ∈ S, IsSet L) {x : Int} (hx : x ∈ P) : 0 ≤ x ∧ x ≤ 4294967296 := by
  have := (h.mem x).1 hx
  rcases List.mem_append.1 this with h1 | h1
  · simp only [List.mem_cons, List.not_mem_nil, or_false] at h1
    omega
  · obtain ⟨L, hL, s, hs, he⟩ := mem_allZ.1 h1
    have := (hS L hL).1 s hs
    unfold Bnd at this
    omega
theorem PlP.first {S : List (List Spn)} {P : List Int} (h : PlP S P) (hS : ∀ L ∈ S, IsSet L) : ∃ h0 : 0 < P.length, P[0] = 0 := by
  have h0 : (0 : Int) ∈ P := (h.mem 0).2 (by simp)
  obtain ⟨j, hj, he⟩ := List.getElem_of_mem h0
  refine ⟨by omega, ?_⟩
  rcases Nat.eq_zero_or_pos j with rfl | hp
  · exact he
  · have := List.pairwise_iff_getElem.1 h.up 0 j (by omega) hj hp
    have := (h.bound hS (List.getElem_mem (show 0 < P.length by omega))).1
    omega
theorem PlP.last {S : List (List Spn)} {P : List Int} (h : PlP S P) (hS : ∀ L ∈ S, IsSet L) {i : Nat} (hi : i < P.length) (he : i + 1 = P.length) : P[i] = 4294967296 := by
  have h0 : (4294967296 : Int) ∈ P := (h.mem _).2 (by simp)
  obtain ⟨j, hj, hx⟩ := List.getElem_of_mem h0
  rcases Nat.lt_or_ge j i with h1 | h1
  · have := List.pairwise_iff_getElem.1 h.up j i hj hi h1
    have := (h.bound hS (List.getElem_mem hi)).2
    omega
  · obtain rfl : j = i := by omega
    exact hx
theorem PlP.between {S : List (List Spn)} {P : List Int} (h : PlP S P) {i : Nat} (hi : i + 1 < P.length) {x : Int} (hx : x ∈ P) : x ≤ P[i] ∨ P[i + 1] ≤ x := by
  obtain ⟨j, hj, rfl⟩ := List.getElem_of_mem hx
  have hpw := List.pairwise_iff_getElem.1 h.up
  rcases Nat.lt_or_ge i j with h1 | h1
  · right
    rcases Nat.lt_or_ge (i + 1) j with h2 | h2
    · exact Int.le_of_lt (hpw (i + 1) j hi hj h2)
    · obtain rfl : j = i + 1 := by omega
      exact Int.le_refl _
  · left
    rcases Nat.lt_or_ge j i with h2 | h2
    · exact Int.le_of_lt (hpw j i hj (by omega) h2)
    · obtain rfl : j = i := by omega
      exact Int.le_refl _
theorem any_congr' {α : Type} {l : List α} {f g : α → Bool} (h : ∀ x ∈ l, f x = g x) : l.any f = l.any g := by
  induction l with
  | nil => rfl
  | cons x l ih => rw [List.any_cons, List.any_cons, h x (by simp), ih (fun y hy => h y (by simp [hy]))]
theorem PlP.piece {S : List (List Spn)} {P : List Int} (h : PlP S P) (hS : ∀ L ∈ S, IsSet L) {i : Nat} (hi : i + 1 < P.length) : Piece S P[i] (P[i + 1] - 1) (S.map (memB P[i])) := by
  have hlt : P[i] < P[i + 1] := List.pairwise_iff_getElem.1 h.up i (i + 1) (by omega) hi (by omega)
  refine ⟨by simp, (h.bound hS (List.getElem_mem _)).1, by omega, by have := (h.bound hS (List.getElem_mem hi)).2; omega, fun k hk n h1 h2 => ?_⟩
  have e : (S.map (memB P[i])).getD k false = memB P[i] (S.getD k []) := by simp [List.getD_eq_getElem?_getD, hk]
  rw [e]
  have hL : S.getD k [] ∈ S := by simp [List.getD_eq_getElem?_getD, hk]
  unfold memB
  refine any_congr' (fun s hs => ?_)
  have m1 : s.1 ∈ P := (h.mem _).2 (List.mem_append.2 (.inr (mem_allZ.2 ⟨_, hL, s, hs, .inl rfl⟩)))
  have m2 : s.2 + 1 ∈ P := (h.mem _).2 (List.mem_append.2 (.inr (mem_allZ.2 ⟨_, hL, s, hs, .inr rfl⟩)))
  have b1 := h.between hi m1
  have b2 := h.between hi m2
  rw [Bool.eq_iff_iff]
  simp only [Bool.and_eq_true, decide_eq_true_eq]
  omega

theorem pair_sq {w : World} {a1 a2 : Option Addr} {c1 c2 : Nat} {A B : List Spn} (h1 : SpAt w a1 A) (h2 : SpAt w a2 B) : SqAt (w.alloc (.cells #[.slice a1 A.length c1, .slice a2 B.length c2] 22)) (some ⟨w.heap.size, 0, none⟩) [A, B] := by
  have x : Below w.heap.size w (w.alloc (.cells #[.slice a1 A.length c1, .slice a2 B.length c2] 22)) := (Below.refl _ _).alloc (Nat.le_refl _) _
  refine .inr ⟨w.heap.size, 0, rfl, by simp, fun i hi => ?_⟩
  match i, hi with
  | 0, _ => exact ⟨a1, c1, by simp, h1.below x⟩
  | 1, _ => exact ⟨a2, c2, by simp, h2.below x⟩

set_option maxRecDepth 100000 in
set_option maxHeartbeats 1000000 in
theorem two_any (op : Nat) (hop : op < 3) (a1 a2 : Option Addr) (c1 c2 : Nat) (A B : List Spn) (w : World) (h1 : SpAt w a1 A) (h2 : SpAt w a2 B) (hl : A.length + B.length ≤ 4294967294) :
    Calls Try.prog 52 #[.int .i64 op, .slice a1 A.length c1, .slice a2 B.length c2] w fun e w' => Told (fOp op) [A, B] w e w' := by
  have r1 := refRight_any a1 c1 A w (by omega) h1
  have r2 := fun W (x : Below w.heap.size w W) => refRight_any a2 c2 B W (by omega) (h2.below x)
  by_cases hs : IsSet A ∧ IsSet B
  · obtain ⟨hA, hB⟩ := hs
    rw [decide_eq_true hA] at r1
    rw [decide_eq_true hB] at r2
    have hall : ∀ L ∈ [A, B], IsSet L := fun L hL => by
      simp only [List.mem_cons, List.not_mem_nil, or_false] at hL
      rcases hL with rfl | rfl <;> assumption
    have hpl := fun W (x : Below w.heap.size w W) => refPlaces_any (some ⟨W.heap.size, 0, none⟩) 2 [A, B] (W.alloc (.cells #[.slice a1 A.length c1, .slice a2 B.length c2] 22)) (by simp) (by simp [totL]; omega) hall (pair_sq (c1 := c1) (c2 := c2) (h1.below x) (h2.below x))
    have HPL := hide hpl
    have HR2 := hide r2
    have HA := hide hA
    have HB := hide hB
    have HALL := hide hall
    have H1 := hide h1
    have H2 := hide h2
    clear hpl r2 hA hB hall h1 h2
    go_enter Try.func52, Try.ntmps52
    go_wp2_with (first
      | (go_at_call 17; refine r1.mono ?_; rintro e w1 ⟨rfl, x1⟩; have X1 := hide x1; clear x1 r1)
      | (go_at_call 17; refine (HR2.out w1 X1.out).mono ?_; rintro e w2 ⟨rfl, x2⟩; have X2 := hide (bt X1.out x2 (Nat.le_refl _)); clear x2)
      | (go_at_call 56; refine (HPL.out w2 X2.out).mono ?_; rintro e w3 ⟨⟨v3, P, rfl, o3, u3, m3, l3⟩, x3⟩; obtain ⟨a3, c3, e3, t3, _, _⟩ := o3.shape; subst e3; have T3 := hide t3; have PL : Hid (PlP [A, B] P) := ⟨u3, m3⟩; have X3 := hide (bt (X2.out.alloc X2.out.size _) x3 (Nat.le_refl _)); have hP9 : P.length ≤ 8589934592 := (by simp [totL] at l3; omega); clear o3 u3 m3 x3 t3 l3))
    obtain ⟨hp0, hp1⟩ := PL.out.first HALL.out
    obtain ⟨pb, po, e, hpb, hpc⟩ := T3.out.get (i := 0) hp0
    subst e
    have HPC := hide hpc
    have HP1 := hide hp1
    clear hpc hp1
    go_loopw [11, 12] (fun o x wr => ∃ (i : Nat) (M : List Spn), i + 1 ≤ P.length ∧ x = .int .i64 i ∧ Hid (Upto (fOp op) [A, B] (P.getD i 0) M) ∧ Hid (M.length ≤ i) ∧ Hid (OwnS wr w3.heap.size o M) ∧ Below w3.heap.size w3 wr) (fun _ x _ => P.length - (RowKit.intOf x).toNat)
    case atStart =>
      refine ⟨0, [], hp0, rfl, ?_, Nat.zero_le _, OwnS.nil _ _, Below.refl _ _⟩
      unfold Hid
      rw [List.getD_eq_getElem?_getD, List.getElem?_eq_getElem hp0, Option.getD_some, HP1.out]
      exact Upto.start _ _
    case round =>
      obtain ⟨i, M, hi1, rfl, UP, HML, O1, hq⟩ := hrel
      have HQ := hide hq
      clear hq
      by_cases hlt : i + 1 < P.length
      · have hlt' : (i : Int) + 1 < P.length := by omega
        have hpi := PL.out.piece HALL.out hlt
        have e1 : P.getD i 0 = P[i] := by rw [List.getD_eq_getElem?_getD, List.getElem?_eq_getElem (by omega), Option.getD_some]
        have e2 : P.getD (i + 1) 0 = P[i + 1] := by rw [List.getD_eq_getElem?_getD, List.getElem?_eq_getElem hlt, Option.getD_some]
        have d1 := (HQ.out.cell (p := ⟨pb, po + i, none⟩) hpb).trans (HPC.out i (by omega))
        have d2 := (HQ.out.cell (p := ⟨pb, po + (i + 1), none⟩) hpb).trans (HPC.out (i + 1) hlt)
        rw [← e1, ← e2] at hpi
        have hst := UP.out.step hpi
        rw [show P.getD (i + 1) 0 - 1 + 1 = P.getD (i + 1) 0 by omega] at hst
        have hlow := UP.out.low
        have hset := UP.out.set
        have hmap : [A, B].map (memB (P.getD i 0)) = [memB (P.getD i 0) A, memB (P.getD i 0) B] := rfl
        rw [hmap] at hst
        have hple := hpi.le
        have hplo := hpi.low
        have hpto := hpi.top
        have n1 := fun W (x : Below w.heap.size w W) => in_any a1 c1 A (P.getD i 0) W (by omega) HA.out (H1.out.below x)
        have n2 := fun W (x : Below w.heap.size w W) => in_any a2 c2 B (P.getD i 0) W (by omega) HB.out (H2.out.below x)
        generalize P.getD i 0 = p at *
        generalize hqe : P.getD (i + 1) 0 = q at *
        have HQE := hide hqe
        have hii : (i : Int) < P.length := by omega
        have fi : IntKind.i64.wrap ((i : Int) + 1) = (i : Int) + 1 := by simp [IntKind.wrap, IntKind.bits, IntKind.signed]; omega
        clear hqe
        generalize memB p A = x at *
        generalize memB p B = y at *
        have hwt := fun W => wants_any op hop x y W
        have HST := hide hst
        have HN1 := hide n1
        have HN2 := hide n2
        have HLW := hide hlow
        have HSE := hide hset
        have hpbr : pb < wr.heap.size := Nat.lt_of_lt_of_le hpb HQ.out.size
        have XQ := hide (bt X3.out HQ.out (Nat.le_refl _))
        clear hst n1 n2 hlow hset hpi hmap e1 e2
        cases hf : fOp op [x, y] with
        | false =>
          rw [hf] at HST hwt
          simp only [Bool.false_eq_true, if_false] at HST
          clear hf
          go_wp2_with (first
            | (go_at_call 45; refine (HN1.out wr XQ.out).mono ?_; rintro e w5 ⟨rfl, x5⟩; have f1 := (x5.cell (p := ⟨pb, po + i, none⟩) hpbr).trans d1; have O5 := hide (O1.out.below x5); have X5 := hide (bt HQ.out x5 (Nat.le_refl _)); have XR5 := hide (bt XQ.out x5 (Nat.le_refl _)); clear x5 d1 HN1)
            | (go_at_call 45; refine (HN2.out w5 XR5.out).mono ?_; rintro e w6 ⟨rfl, x6⟩; have O6 := hide (O5.out.below x6); have X6 := hide (bt X5.out x6 (Nat.le_refl _)); clear x6 f1)
            | (go_at_call 62; refine (hwt _).mono ?_; rintro e w7 ⟨rfl, hw7⟩; subst hw7))
          go_roundw
          case rel => exact ⟨i + 1, M, by omega, by go_num, by rw [HQE.out]; exact HST.out, Nat.le_succ_of_le HML.out, O6.out, X6.out⟩
          case measure => simp [RowKit.intOf]; omega
        | true =>
          rw [hf] at HST hwt
          simp only [if_true] at HST
          clear hf
          go_wp2_with (first
            | (go_at_call 45; refine (HN1.out wr XQ.out).mono ?_; rintro e w5 ⟨rfl, x5⟩; have f1 := (x5.cell (p := ⟨pb, po + i, none⟩) hpbr).trans d1; have f2 := (x5.cell (p := ⟨pb, po + (i + 1), none⟩) hpbr).trans d2; have O5 := hide (O1.out.below x5); have X5 := hide (bt HQ.out x5 (Nat.le_refl _)); have XR5 := hide (bt XQ.out x5 (Nat.le_refl _)); have h5 : pb < w5.heap.size := (Nat.lt_of_lt_of_le hpbr x5.size); clear x5 d1 d2 HN1)
            | (go_at_call 45; refine (HN2.out w5 XR5.out).mono ?_; rintro e w6 ⟨rfl, x6⟩; have g1 := (x6.cell (p := ⟨pb, po + i, none⟩) h5).trans f1; have g2 := (x6.cell (p := ⟨pb, po + (i + 1), none⟩) h5).trans f2; have O6 := hide (O5.out.below x6); have X6 := hide (bt X5.out x6 (Nat.le_refl _)); clear x6 f1 f2)
            | (go_at_call 62; refine (hwt _).mono ?_; rintro e w7 ⟨rfl, hw7⟩; subst hw7))
          have fq : IntKind.i64.wrap (q - 1) = q - 1 := by simp [IntKind.wrap, IntKind.bits, IntKind.signed]; omega
          have hi0 : (0 : Int) ≤ (i : Int) + 1 := by omega
          have htn : ((i : Int) + 1).toNat = i + 1 := by omega
          have HML2 := HML.out
          have hpb7 : pb < w7.heap.size := Nat.lt_of_lt_of_le hpb X6.out.size
          have hnr : ¬ isRow u11 pb := fun h => by have := (O6.out.lt pb h).1; omega
          have HNR := hide hnr
          have hlg := longer_any w7.drew w3.heap.size u11 M (p, q - 1) (World.ownsRow.drew O6.out) X6.out.size (by omega) hple (fun B z e => by
            have h3 := HSE.out.1 z (by rw [e]; simp)
            have h4 := HLW.out z (by rw [e]; simp)
            unfold Bnd at h3
            exact ⟨by omega, by omega, h4⟩)
          have HLG := hide hlg
          have HRW := hide (O6.out.lt)
          clear hlg hnr HML2
          go_region_held3 (fun w' => w'.cell? ⟨pb, po + i, none⟩ = some (.int .i64 p) ∧ w'.cell? ⟨pb, po + (i + 1), none⟩ = some (.int .i64 q)) (first | assumption | (simp [go_sem, *]; done))
            (first
              | (go_at_call 63; refine HLG.out.mono ?_; rintro e w8 ⟨v8, rfl, o8, k8, _⟩; have j1 : w8.cell? ⟨pb, po + i, none⟩ = some (.int .i64 p) := ((k8.cell (p := ⟨pb, po + i, none⟩) hpb7 HNR.out).trans g1); have j2 : w8.cell? ⟨pb, po + (i + 1), none⟩ = some (.int .i64 q) := ((k8.cell (p := ⟨pb, po + (i + 1), none⟩) hpb7 HNR.out).trans g2); have O8 := hide o8; have X8 : Hid (Below w3.heap.size w3 w8) := (X6.out.drew.trans (k8.below X6.out.size (fun i hi => (HRW.out i hi).1))); clear o8 k8))
          clear j1 j2 g1 g2
          go_wp2
          go_roundw
          case rel => exact ⟨i + 1, joinL M (p, q - 1), by omega, by go_num, by rw [HQE.out]; exact HST.out, by have h1 := joinL_length M (p, q - 1); have h2 := HML.out; unfold Hid; omega, O8.out, X8.out⟩
          case measure => simp [RowKit.intOf]; omega
      · have hlt' : ¬ (i : Int) + 1 < P.length := by omega
        have hla := PL.out.last HALL.out (i := i) (by omega) (by omega)
        have e1 : P.getD i 0 = P[i]'(by omega) := by rw [List.getD_eq_getElem?_getD, List.getElem?_eq_getElem (by omega), Option.getD_some]
        rw [e1, hla] at UP
        have fi : IntKind.i64.wrap ((i : Int) + 1) = (i : Int) + 1 := by simp [IntKind.wrap, IntKind.bits, IntKind.signed]; omega
        clear e1 hla
        go_wp2
        go_ret2
        refine ⟨bt X3.out HQ.out (Nat.le_refl _), .inl ⟨HALL.out, u11, M, rfl, O1.out.mono X3.out.size, UP.out⟩⟩
  · have hno : ¬ ∀ L ∈ [A, B], IsSet L := fun h => hs ⟨h A (by simp), h B (by simp)⟩
    have HNO := hide hno
    clear hno
    by_cases hA : IsSet A
    · have hB : ¬ IsSet B := fun h => hs ⟨hA, h⟩
      rw [decide_eq_true hA] at r1
      rw [decide_eq_false hB] at r2
      have HR2 := hide r2
      clear r2 hA hB hs h1 h2
      go_enter Try.func52, Try.ntmps52
      go_wp2_with (first
        | (go_at_call 17; refine r1.mono ?_; rintro e w1 ⟨rfl, x1⟩; have X1 := hide x1; clear x1 r1)
        | (go_at_call 17; refine (HR2.out w1 X1.out).mono ?_; rintro e w2 ⟨rfl, x2⟩; have X2 := hide (bt X1.out x2 (Nat.le_refl _)); clear x2))
      go_ret2
      exact ⟨X2.out, .inr ⟨HNO.out, rfl⟩⟩
    · rw [decide_eq_false hA] at r1
      have HR2 := hide r2
      clear r2 hA hs h1 h2
      generalize decide (IsSet B) = z at *
      go_enter Try.func52, Try.ntmps52
      go_wp2_with (first
        | (go_at_call 17; refine r1.mono ?_; rintro e w1 ⟨rfl, x1⟩; have X1 := hide x1; clear x1 r1)
        | (go_at_call 17; refine (HR2.out w1 X1.out).mono ?_; rintro e w2 ⟨rfl, x2⟩; have X2 := hide (bt X1.out x2 (Nat.le_refl _)); clear x2))
      go_ret2
      exact ⟨X2.out, .inr ⟨HNO.out, rfl⟩⟩

/-- What Union, Meet, Less, Not answer. -/
def TdIs (f : List Bool → Bool) (S : List (List Spn)) (A : List Spn) (E : Int) : Prop := ((∀ L ∈ S, IsSet L) ∧ Upto f S 4294967296 A ∧ E = 0) ∨ ((¬ ∀ L ∈ S, IsSet L) ∧ A = [] ∧ E = 1)
theorem TdIs.one {f : List Bool → Bool} {S : List (List Spn)} {A A' : List Spn} {E E' : Int} (h : TdIs f S A E) (h' : TdIs f S A' E') : A' = A ∧ E' = E := by
  rcases h with ⟨a, b, c⟩ | ⟨a, b, c⟩ <;> rcases h' with ⟨a', b', c'⟩ | ⟨a', b', c'⟩
  · exact ⟨IsSet.unique b'.set b.set (fun n => (b'.says n).trans (b.says n).symm), c'.trans c.symm⟩
  · exact absurd a a'
  · exact absurd a' a
  · exact ⟨b'.trans b.symm, c'.trans c.symm⟩
theorem set_long : ∀ (M : List Spn) (m : Int), IsSet M → (∀ s ∈ M, m ≤ s.1) → m ≤ 4294967296 → (M.length : Int) ≤ 4294967296 - m
  | [], m, _, _, h => by simp; omega
  | s :: M, m, h, hm, h0 => by
    have hs := h.head
    unfold Bnd at hs
    have h1 := hm s (by simp)
    by_cases hM : M = []
    · subst hM; simp; omega
    · obtain ⟨t, ht⟩ := List.exists_mem_of_ne_nil M hM
      have h2 := (List.pairwise_cons.1 h.2).1
      have h3 := h2 t ht
      have h4 := h.tail.1 t ht
      unfold Bnd at h4
      have := set_long M (s.2 + 2) h.tail h2 (by omega)
      rw [List.length_cons]
      omega
theorem TdIs.len {f : List Bool → Bool} {S : List (List Spn)} {A : List Spn} {E : Int} (h : TdIs f S A E) : A.length ≤ 4294967296 := by
  rcases h with ⟨_, b, _⟩ | ⟨_, b, _⟩
  · have := set_long A 0 b.set (fun s hs => (b.set.1 s hs).1) (by decide)
    omega
  · rw [b]; simp
/-- .. as a call's end. -/
def TdE (f : List Bool → Bool) (S : List (List Spn)) (w : World) (e : Ending) (w' : World) : Prop := (∃ v A E, e = .returned (.tuple #[v, .int .i64 E]) ∧ OwnS w' w.heap.size v A ∧ TdIs f S A E) ∧ Below w.heap.size w w'
theorem Told.te {f : List Bool → Bool} {S : List (List Spn)} {w : World} {e : Ending} {w' : World} (h : Told f S w e w') : TdE f S w e w' := by
  obtain ⟨x, h⟩ := h
  rcases h with ⟨a, v, M, h1, h2, h3⟩ | ⟨a, h1⟩
  · exact ⟨⟨v, M, 0, h1, h2, .inl ⟨a, h3, rfl⟩⟩, x⟩
  · exact ⟨⟨_, [], 1, h1, OwnS.nil _ _, .inr ⟨a, rfl, rfl⟩⟩, x⟩

set_option maxRecDepth 100000 in
theorem refUnion_any (a1 a2 : Option Addr) (c1 c2 : Nat) (A B : List Spn) (w : World) (h1 : SpAt w a1 A) (h2 : SpAt w a2 B) (hl : A.length + B.length ≤ 4294967294) :
    Calls Try.prog 25 #[.slice a1 A.length c1, .slice a2 B.length c2] w fun e w' => TdE fOr [A, B] w e w' := by
  have ht : Calls Try.prog 52 #[.int .i64 0, .slice a1 A.length c1, .slice a2 B.length c2] w fun e w' => TdE fOr [A, B] w e w' := (two_any 0 (by decide) a1 a2 c1 c2 A B w h1 h2 hl).mono fun _ _ h => Told.te h
  clear h1 h2
  go_enter Try.func25, Try.ntmps25
  go_wp2_with (go_at_call 52; refine ht.mono ?_; rintro e w1 ⟨⟨v, M, E, rfl, o, t⟩, x⟩; have O := hide o; have T := hide t; have X := hide x; clear o t x)
  go_ret2
  exact ⟨⟨v, M, E, rfl, O.out, T.out⟩, X.out⟩
set_option maxRecDepth 100000 in
theorem refMeet_any (a1 a2 : Option Addr) (c1 c2 : Nat) (A B : List Spn) (w : World) (h1 : SpAt w a1 A) (h2 : SpAt w a2 B) (hl : A.length + B.length ≤ 4294967294) :
    Calls Try.prog 26 #[.slice a1 A.length c1, .slice a2 B.length c2] w fun e w' => TdE fAnd [A, B] w e w' := by
  have ht : Calls Try.prog 52 #[.int .i64 1, .slice a1 A.length c1, .slice a2 B.length c2] w fun e w' => TdE fAnd [A, B] w e w' := (two_any 1 (by decide) a1 a2 c1 c2 A B w h1 h2 hl).mono fun _ _ h => Told.te h
  clear h1 h2
  go_enter Try.func26, Try.ntmps26
  go_wp2_with (go_at_call 52; refine ht.mono ?_; rintro e w1 ⟨⟨v, M, E, rfl, o, t⟩, x⟩; have O := hide o; have T := hide t; have X := hide x; clear o t x)
  go_ret2
  exact ⟨⟨v, M, E, rfl, O.out, T.out⟩, X.out⟩
set_option maxRecDepth 100000 in
theorem refLess_any (a1 a2 : Option Addr) (c1 c2 : Nat) (A B : List Spn) (w : World) (h1 : SpAt w a1 A) (h2 : SpAt w a2 B) (hl : A.length + B.length ≤ 4294967294) :
    Calls Try.prog 27 #[.slice a1 A.length c1, .slice a2 B.length c2] w fun e w' => TdE fSub [A, B] w e w' := by
  have ht : Calls Try.prog 52 #[.int .i64 2, .slice a1 A.length c1, .slice a2 B.length c2] w fun e w' => TdE fSub [A, B] w e w' := (two_any 2 (by decide) a1 a2 c1 c2 A B w h1 h2 hl).mono fun _ _ h => Told.te h
  clear h1 h2
  go_enter Try.func27, Try.ntmps27
  go_wp2_with (go_at_call 52; refine ht.mono ?_; rintro e w1 ⟨⟨v, M, E, rfl, o, t⟩, x⟩; have O := hide o; have T := hide t; have X := hide x; clear o t x)
  go_ret2
  exact ⟨⟨v, M, E, rfl, O.out, T.out⟩, X.out⟩
theorem full_set : IsSet [(0, 4294967295)] := by decide
theorem TdIs.not {A M : List Spn} {E : Int} (h : TdIs fSub [[(0, 4294967295)], A] M E) : TdIs fNot [A] M E := by
  have hiff : (∀ L ∈ [[(0, 4294967295)], A], IsSet L) ↔ ∀ L ∈ [A], IsSet L := by
    simp only [List.mem_cons, List.not_mem_nil, or_false, forall_eq_or_imp, forall_eq]
    exact ⟨fun h => h.2, fun h => ⟨full_set, h⟩⟩
  rcases h with ⟨a, b, c⟩ | ⟨a, b, c⟩
  · refine .inl ⟨hiff.1 a, ⟨b.set, b.low, fun n => ?_⟩, c⟩
    rw [b.says n]
    by_cases h1 : 0 ≤ n
    · by_cases h2 : n < 4294967296
      · have e : memB n [(0, 4294967295)] = true := (memB_iff _ _).2 ⟨(0, 4294967295), by simp, h1, by simp only []; omega⟩
        simp [fSub, fNot, e, h1, h2]
      · simp [h2]
    · simp [h1]
  · exact .inr ⟨fun h => a (hiff.2 h), b, c⟩
set_option maxRecDepth 100000 in
theorem refNot_any (a1 : Option Addr) (c1 : Nat) (A : List Spn) (w : World) (h1 : SpAt w a1 A) (hl : A.length ≤ 4294967290) :
    Calls Try.prog 28 #[.slice a1 A.length c1] w fun e w' => TdE fNot [A] w e w' := by
  have x0 : Below w.heap.size w (w.alloc (.cells #[.int .i64 0, .int .i64 4294967295] 46)) := (Below.refl _ _).alloc (Nat.le_refl _) _
  have hat : SpAt (w.alloc (.cells #[.int .i64 0, .int .i64 4294967295] 46)) (some ⟨w.heap.size, 0, none⟩) [(0, 4294967295)] := .inr ⟨w.heap.size, 0, rfl, by simp, fun i hi => by
    obtain rfl : i = 0 := by simp at hi; omega
    exact ⟨by simp, by simp⟩⟩
  have ht := refLess_any (some ⟨w.heap.size, 0, none⟩) a1 1 c1 [(0, 4294967295)] A _ hat (h1.below x0) (by simp; omega)
  have HX := hide x0
  clear h1 hat x0
  go_enter Try.func28, Try.ntmps28
  go_wp2_with (go_at_call 27; refine ht.mono ?_; rintro e w1 ⟨⟨v, M, E, rfl, o, t⟩, x⟩; have O := hide o; have T := hide t.not; have X := hide x; clear o t x)
  go_ret2
  exact ⟨⟨v, M, E, rfl, O.out.mono HX.out.size, T.out⟩, bt HX.out X.out (Nat.le_refl _)⟩
end Go.Proofs.Ytljagefcgijmlaa
