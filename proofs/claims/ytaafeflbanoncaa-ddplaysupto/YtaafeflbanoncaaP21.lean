/-
  Path by its contract. No condition.
-/
import Derived.Test.YtaafeflbanoncaaP20
import Derived.Test.YtaafeflbanoncaaP14
namespace Go.Proofs.Ytaafeflbanoncaa
open Go.RowKit Go.Lib Go.Maps

/-- The first that is not 0. -/
def fst0 : List Int → Nat
  | [] => 0
  | x :: t => if x = 0 then fst0 t + 1 else 0
theorem fst0_spec : ∀ (L : List Int), (∃ x ∈ L, x ≠ 0) → fst0 L < L.length ∧ L.getD (fst0 L) 0 ≠ 0 ∧ ∀ i, i < fst0 L → L.getD i 0 = 0
  | [], h => by obtain ⟨x, hx, _⟩ := h; cases hx
  | x :: t, h => by
    unfold fst0
    by_cases e : x = 0
    · rw [if_pos e]
      have h' : ∃ y ∈ t, y ≠ 0 := by
        obtain ⟨y, hy, hn⟩ := h
        rcases List.mem_cons.1 hy with rfl | hy
        · exact absurd e hn
        · exact ⟨y, hy, hn⟩
      obtain ⟨a, b, c⟩ := fst0_spec t h'
      refine ⟨by simpa using a, by simpa using b, fun i hi => ?_⟩
      cases i with
      | zero => simpa using e
      | succ i => simpa using c i (by omega)
    · rw [if_neg e]
      exact ⟨by simp, by simpa using e, fun i hi => by omega⟩
theorem fst0_one {L : List Int} {k : Nat} (hk : k < L.length) (h0 : ∀ i, i < k → L.getD i 0 = 0) (hn : L.getD k 0 ≠ 0) : fst0 L = k := by
  obtain ⟨a, b, c⟩ := fst0_spec L ⟨_, getD_mem hk, hn⟩
  rcases Nat.lt_trichotomy (fst0 L) k with h | h | h
  · exact absurd (h0 _ h) b
  · exact h
  · exact absurd (c _ h) hn
set_option maxRecDepth 100000 in
theorem path1_any (z : Int) (w : World) : Calls Try.prog 66 #[.int .i64 z] w fun e w' => e = .returned (.bool (z != 0)) ∧ w' = w := by
  go_enter Try.func66, Try.ntmps66
  go_wp2
  go_ret
  exact ⟨rfl, rfl⟩
set_option maxRecDepth 100000 in
set_option maxHeartbeats 1000000 in
theorem indexFunc_ok {ao : Option Addr} {cap : Nat} {A : List Int} {w : World} (hl : A.length ≤ 65536) (hA : ∃ x ∈ A, x ≠ 0) (hz : ZAt w ao A) : Calls Try.prog 65 #[.slice ao A.length cap, .func (.func 66) #[] #[]] w fun e w' => e = .returned (.int .i64 (fst0 A : Nat)) ∧ w' = w := by
  have HZ := hide hz
  have HA := hide hA
  have he : ∀ args w, (callFunc 66 args).run Try.prog w = .ok (.enter 66 args) w := fun args w => rfl
  clear hz hA
  go_enter Try.func65, Try.ntmps65
  go_wp2
  go_loopw [8] (fun x wr => ∃ k : Nat, k ≤ A.length ∧ x = .int .i64 k ∧ Hid (∀ i, i < k → A.getD i 0 = 0) ∧ Hid (wr = w)) (fun x _ => A.length - (RowKit.intOf x).toNat)
  case atStart => exact ⟨0, Nat.zero_le _, rfl, fun i h => by omega, rfl⟩
  case round =>
    obtain ⟨k, hk, rfl, HE, HQ⟩ := hrel
    have hq := HQ.out.symm
    clear HQ
    subst hq
    by_cases hlt : k < A.length
    · have hlt' : (k : Int) < A.length := by omega
      obtain ⟨b1, o1, rfl, hb1, g1⟩ := HZ.out.get hlt
      have P1 := hide (path1_any (A.getD k 0) w)
      by_cases e : A.getD k 0 = 0
      · rw [e] at g1 P1
        have HE2 : Hid (∀ i, i < k + 1 → A.getD i 0 = 0) := fun i hi => by
          rcases Nat.lt_or_ge i k with h | h
          · exact HE.out i h
          · obtain rfl : i = k := by omega
            exact e
        clear e
        go_wp2_with (fail)
        refine P1.out.mono ?_
        rintro e w1 ⟨rfl, hw1⟩
        have hw2 := hw1.symm
        clear hw1
        subst hw2
        go_wp2
        go_roundw
        case rel => exact ⟨k + 1, by omega, by go_num, HE2, by first | exact rfl | exact trivial⟩
        case measure => simp [RowKit.intOf]; omega
      · have HF := hide (fst0_one hlt HE.out e)
        have e' : (A.getD k 0 != 0) = true := by simpa using e
        rw [e'] at P1
        clear e e'
        generalize A.getD k 0 = x at *
        go_wp2_with (fail)
        refine P1.out.mono ?_
        rintro e w1 ⟨rfl, hw1⟩
        have hw2 := hw1.symm
        clear hw1
        subst hw2
        go_wp2
        go_ret
        exact ⟨by rw [HF.out]; rfl, rfl⟩
    · exfalso
      obtain ⟨a, b, c⟩ := fst0_spec A HA.out
      exact b (HE.out _ (by omega))
/-- The path, step by step. -/
def pathF (N : List Nd) : Nat → Int → List Int → List Int
  | 0, _, L => L
  | n + 1, f, L => if 2 ≤ f then pathF N n ((N.getD (f - 2).toNat (0, [])).2.getD (fst0 (N.getD (f - 2).toNat (0, [])).2) 0) (L.set (N.getD (f - 2).toNat (0, [])).1.toNat (fst0 (N.getD (f - 2).toNat (0, [])).2 : Int)) else L
theorem pathF_node {S : List Int} {N : List Nd} {f : Int} {l : Nat} {ks L : List Int} (hn : NdAt S N f l ks) (h2 : 2 ≤ f) (n : Nat) : pathF N (n + 1) f L = pathF N n (ks.getD (fst0 ks) 0) (L.set l (fst0 ks : Int)) := by
  have e : N.getD (f - 2).toNat (0, []) = ((l : Int), ks) := by rw [List.getD_eq_getElem?_getD, hn.at_]; rfl
  rw [pathF, if_pos h2, e]
  simp only [Int.toNat_natCast]
theorem not_one {ks : List Int} (h : ¬ One ks) : ∃ x ∈ ks, x ≠ 0 := by
  by_cases e : ∃ x ∈ ks, x ≠ 0
  · exact e
  · exfalso
    have h0 : ∀ x ∈ ks, x = 0 := fun x hx => Classical.byContradiction fun hn => e ⟨x, hx, hn⟩
    refine h (fun x hx => ?_)
    rw [h0 x hx]
    cases ks with
    | nil => cases hx
    | cons y t => exact (h0 y (by simp)).symm
section
variable {w : World} {a : Nat} {S : List Int} {M : Int} {N : List Nd} {m : Nat} {P : Nat → Prop} {f : Int}
def PthL (S : List Int) (N : List Nd) (f : Int) (w : World) (e : Ending) (w' : World) : Prop := ∃ ob, e = .returned (.tuple #[.slice (some ⟨ob, 0, none⟩) S.length S.length, .bool true, .int .i64 0]) ∧ w.heap.size ≤ ob ∧ ∃ L, L = pathF N f.toNat f (List.replicate S.length 0) ∧ L.length = S.length ∧ RwZ w' ob L ∧ Below w.heap.size w w'
set_option maxRecDepth 100000 in
set_option maxHeartbeats 2000000 in
theorem path_ok (h : CA w a S M N m P) (hf : hasR N f) (hf0 : f ≠ 0) :
    Calls Try.prog 27 #[.pointer (some ⟨a, 0, none⟩), .int .i64 f] w fun e w' => PthL S N f w e w' := by
  have HH := hide h
  have HF := hide hf
  have HF0 := hide hf0
  have hs12 := h.ok.sz.le
  have y1 : Below w.heap.size w (w.alloc (.cells #[.int .i64 f] 3)) := al (Below.refl _ _) _
  have X1 := hide y1
  have AT := hide (areThere_any (some ⟨w.heap.size, 0, none⟩) 1 [f] (by simp) (zat_new w [f]) (h.below y1))
  have SZ := hide (fun W (x : Below w.heap.size w W) => (h.below x).sizes)
  have hne : (f == 0) = false := by simpa using hf0
  have hmk := make_ints S.length (S.length : Int) rfl (by omega)
  clear h hf hf0 y1
  go_enter Try.func27, Try.ntmps27
  go_upto_block 0 with (first
    | (go_at_call 59; refine AT.out.mono ?_; rintro e w1 ⟨⟨b, rfl, hb⟩, x1⟩; have hbt := hb.2 (by intro z hz; simp at hz; rw [hz]; exact HF.out); subst hbt; have X2 := hide (bt X1.out x1 (Nat.le_refl _)); clear hb x1)
    | (go_at_call 49; refine (SZ.out _ X2.out).mono ?_; rintro e w2 ⟨⟨g, c, rfl, o2, z2, l2⟩, x2⟩; have X3 := hide (bt X2.out x2 (Nat.le_refl _)); clear x2 o2 z2 l2))
  clear AT SZ X1 X2 hmk
  have y4 : Below w2.heap.size w2 (w2.alloc (.cells (zC (List.replicate S.length 0)).toArray 3)) := al (Below.refl _ _) _
  have X4 := hide (bt X3.out y4 (Nat.le_refl _))
  have R4 := hide (RwZ.made w2 (List.replicate S.length 0))
  have OB : Hid (w.heap.size ≤ w2.heap.size) := X3.out.size
  clear y4
  generalize w2.alloc (.cells (zC (List.replicate S.length 0)).toArray 3) = w4 at *
  generalize w2.heap.size = ob at *
  go_wp2
  go_loopw [1] (fun x wr => ∃ f' : Int, x = .int .i64 f' ∧ Hid (hasR N f' ∧ f' ≠ 0) ∧ Hid (∃ n L, f'.toNat ≤ n ∧ pathF N n f' L = pathF N f.toNat f (List.replicate S.length 0) ∧ L.length = S.length ∧ RwZ wr ob L) ∧ Hid (Below w.heap.size w wr)) (fun x _ => (RowKit.intOf x).toNat)
  case atStart => exact ⟨f, rfl, ⟨HF.out, HF0.out⟩, ⟨f.toNat, _, Nat.le_refl _, rfl, by simp, R4.out⟩, X4⟩
  case round =>
    obtain ⟨f', rfl, HF', HE, XB⟩ := hrel
    obtain ⟨n, L, hn0, hp, hL, hR⟩ := HE.out
    by_cases h2 : 2 ≤ f'
    · have n1 : (f' != 1) = true := by simp; omega
      have ok := HH.out.ok
      obtain ⟨l, ks, hn⟩ := ok.ndAt h2 HF'.out.1.2
      obtain ⟨i, hi⟩ : ∃ i : Nat, f' = (i : Int) + 2 := ⟨(f' - 2).toNat, by omega⟩
      have hat := hn.at_
      rw [show (f' - 2).toNat = i by omega] at hat
      obtain ⟨c1, c2, c3⟩ := fst0_spec ks (not_one hn.one)
      have hl := hn.lt
      have HKD := hide (hn.kid _ c1)
      have hksl : ks.length ≤ 256 := by have h1 := hn.len; have h2 := ok.sz.each _ (getD_mem hl); omega
      have HP : Hid (∃ n', n = n' + 1 ∧ pathF N n' (ks.getD (fst0 ks) 0) (L.set l (fst0 ks : Int)) = pathF N f.toNat f (List.replicate S.length 0)) := by
        obtain ⟨n', rfl⟩ : ∃ n', n = n' + 1 := ⟨n - 1, by omega⟩
        exact ⟨n', rfl, by rw [← hp, pathF_node hn h2]⟩
      have HND := hide ((HH.out.below XB.out).node f')
      have IF := hide (fun (W : World) (ao : Option Addr) (cap : Nat) (hz : ZAt W ao ks) => indexFunc_ok (cap := cap) (by omega) (not_one hn.one) hz)
      have HAT := hide hat
      have HI := hide hi
      have HL := hide hL
      have hl' : (l : Int) < (S.length : Int) := by omega
      have hll : l < L.length := by omega
      have hc1 : ((fst0 ks : Nat) : Int) < (ks.length : Int) := by omega
      have C1 := hide c1
      have C2 := hide c2
      have HR := hide hR
      have H2 := hide h2
      have HN0 := hide hn0
      clear ok hn hat hi hl h2 c1 c2 c3 hL hR hp hn0 HE
      obtain ⟨cx, hcx⟩ : ∃ cx, fst0 ks = cx := ⟨_, rfl⟩
      rw [hcx] at HKD HP C1 C2 hc1 IF
      clear hcx
      go_upto_region 8 with (go_at_call 21; refine HND.out.mono ?_; rintro e w5 ⟨⟨i', lv', ks', g5, cp, hi', hf', rfl, o3, z3, l3⟩ | ⟨hno, _⟩, x3⟩; rotate_left; (exfalso; exact hno (by have h1 := H2.out; have h2 := HF'.out.1.2; omega)); have hii : i' = i := (by have := HI.out; omega); subst hii; have hks := hi'.symm.trans HAT.out; have hlk : lv' = (l : Int) ∧ ks' = ks := (by injection hks with hks; injection hks with h1 h2; exact ⟨h1, h2⟩); obtain ⟨h1, h2⟩ := hlk; subst h1 h2; clear hks hi' hf' o3; have Z5 := hide z3; have X5 := hide x3; have L5 := hide l3; clear z3 l3 x3)
      have y6 : Below w5.heap.size w5 (w5.alloc (.cells #[.int .i64 (l : Int), .slice (some ⟨g5, 0, none⟩) ks'.length cp] 58)) := al (Below.refl _ _) _
      have nb : (w5.alloc (.cells #[.int .i64 (l : Int), .slice (some ⟨g5, 0, none⟩) ks'.length cp] 58)).heap[w5.heap.size]? = some (.cells #[.int .i64 (l : Int), .slice (some ⟨g5, 0, none⟩) ks'.length cp] 58 (0, 0)) := heap_alloc_new w5 _
      have Z6 := hide (Z5.out.below y6)
      have Y6 := hide (bt X5.out y6 (Nat.le_refl _))
      have R6 := hide (HR.out.below Y6.out)
      have XN := hide (bt XB.out Y6.out (Nat.le_refl _))
      clear y6
      generalize w5.alloc (.cells #[.int .i64 (l : Int), .slice (some ⟨g5, 0, none⟩) ks'.length cp] 58) = w6 at *
      generalize w5.heap.size = nb6 at *
      have q0 : w6.cell? ⟨nb6, 0, none⟩ = some (.int .i64 (l : Int)) := by rw [cell_of_row _ _ _ _ _ _ nb]; rfl
      have q1 : w6.cell? ⟨nb6, 1, none⟩ = some (.slice (some ⟨g5, 0, none⟩) ks'.length cp) := by rw [cell_of_row _ _ _ _ _ _ nb]; rfl
      have IF6 := hide (IF.out w6 (some ⟨g5, 0, none⟩) cp Z6.out.at)
      have f6 := R6.out.fro l
      have r6 := R6.out.cell hll
      have hz6 := Z6.out.cell C1.out
      have nob : nb6 ≠ ob := fun e => by
        have h1 := R6.out
        unfold RwZ at h1
        rw [← e, nb] at h1
        simp only [Option.some.injEq, Obj.cells.injEq] at h1
        exact absurd h1.2.1 (by decide)
      have NB := hide nb
      have hgo : Hid (g5 ≠ ob) := fun e => by
        have h1 := L5.out
        have h2 := HR.out.lt
        omega
      have R7 := hide (R6.out.set l (cx : Int))
      have q7 : (w6.setCell ⟨ob, l, none⟩ (.int .i64 (cx : Int))).cell? ⟨nb6, 1, none⟩ = some (.slice (some ⟨g5, 0, none⟩) ks'.length cp) := by
        rw [cell_of_row _ _ _ _ _ _ ((Below.heap_setCell _ _ _ _ nob).trans nb)]; rfl
      have z7 := (Z6.out.congr (w' := w6.setCell ⟨ob, l, none⟩ (.int .i64 (cx : Int))) (Below.heap_setCell _ _ _ _ hgo.out)).cell C1.out
      have X7 := hide (bl XN.out OB.out l (.int .i64 (cx : Int)))
      obtain ⟨x, hx⟩ : ∃ x, ks'.getD cx 0 = x := ⟨_, rfl⟩
      rw [hx] at z7 HP HKD C2
      clear hx hz6 nb
      go_upto_region 10 with (go_at_call 65; refine IF6.out.mono ?_; rintro e w7 ⟨rfl, hw7⟩; have hw8 := hw7.symm; clear hw7; subst hw8)
      generalize w6.setCell ⟨ob, l, none⟩ (.int .i64 (cx : Int)) = w7 at *
      clear q0 q1 f6 r6 IF6
      go_wp2
      go_roundw
      case rel =>
        obtain ⟨n', hn', hp'⟩ := HP.out
        have h1 := HKD.out
        have h2 := HF'.out.1
        have h3 := HN0.out
        exact ⟨x, rfl, ⟨⟨h1.1, by have := h2.2; omega⟩, C2.out⟩, ⟨n', L.set l (cx : Int), by omega, hp', by rw [List.length_set]; exact HL.out, R7.out⟩, X7⟩
      case measure => have h1 := HKD.out; have h2 := HI.out; simp [RowKit.intOf]; omega
    · have hlo := HF'.out.1.1
      have hne0 := HF'.out.2
      obtain rfl : f' = 1 := by omega
      have HD : Hid (L = pathF N f.toNat f (List.replicate S.length 0)) := by
        unfold Hid
        rw [← hp]
        cases n with
        | zero => rfl
        | succ n => rw [pathF, if_neg (by omega)]
      have HR := hide hR
      have HL := hide hL
      clear hp hR hL hn0 HE
      go_wp2
      go_ret3
      exact ⟨ob, rfl, OB.out, L, HD.out, HL.out, HR.out, XB.out⟩
end
end Go.Proofs.Ytaafeflbanoncaa
/-
  The path of a diagram is its first point. In pure words; of no program: no condition.
-/
namespace Go.Proofs.Ytaafeflbanoncaa
open Go.RowKit

section
variable {S : List Int} {M : Int} {N : List Nd}
theorem setg (L : List Int) (l : Nat) (k : Int) (j : Nat) : (L.set l k).getD j 0 = if j = l ∧ l < L.length then k else L.getD j 0 := by
  rw [List.getD_eq_getElem?_getD, List.getD_eq_getElem?_getD, List.getElem?_set]
  by_cases e : l = j
  · subst e
    by_cases h : l < L.length
    · simp [h]
    · simp [h]
  · rw [if_neg e, if_neg (fun h => e h.1.symm)]
theorem pathF_all (h : Ok S M N) : ∀ (n : Nat) (f : Int) (L : List Int), hasR N f → f ≠ 0 → f.toNat ≤ n → PtL S L →
    PtL S (pathF N n f L) ∧ (∀ j : Nat, (j : Int) < lvl S N f → (pathF N n f L).getD j 0 = L.getD j 0) ∧ sayR N (ptf (pathF N n f L)) f = true ∧
    ((∀ j : Nat, lvl S N f ≤ (j : Int) → L.getD j 0 = 0) → ∀ q, Pnt S q → ∀ k : Nat, lvl S N f ≤ (k : Int) → (∀ j, j < k → (q j : Int) = (pathF N n f L).getD j 0) → (q k : Int) < (pathF N n f L).getD k 0 → sayR N q f = false) := by
  intro n
  induction n with
  | zero => intro f L hf h0 hn; have := hf.1; omega
  | succ n ih =>
    intro f L hf h0 hn hL
    by_cases h2 : 2 ≤ f
    · obtain ⟨l, ks, hnd⟩ := h.ndAt h2 hf.2
      have e := hnd.lev
      obtain ⟨k1, k2, k3⟩ := fst0_spec ks (not_one hnd.one)
      obtain ⟨c1, c2, c3⟩ := hnd.kid (fst0 ks) k1
      rw [pathF_node hnd h2]
      have hlS := hnd.lt
      have hl : l < L.length := by rw [hL.len]; exact hlS
      have hkl : (fst0 ks : Int) < S.getD l 0 := by have := hnd.len; omega
      have hL2 : PtL S (L.set l (fst0 ks : Int)) := ⟨by rw [List.length_set]; exact hL.len, fun i hi => by
        rw [List.length_set] at hi
        rw [setg]
        by_cases e2 : i = l
        · subst e2; rw [if_pos ⟨rfl, hl⟩]; omega
        · rw [if_neg (fun h => e2 h.1)]; exact hL.each i hi⟩
      obtain ⟨a1, a2, a3, a4⟩ := ih (ks.getD (fst0 ks) 0) (L.set l (fst0 ks : Int)) ⟨c1, by have := hf.2; omega⟩ k2 (by omega) hL2
      generalize hR : pathF N n (ks.getD (fst0 ks) 0) (L.set l (fst0 ks : Int)) = R at *
      have hRl : R.getD l 0 = (fst0 ks : Int) := by rw [a2 l (by omega), setg, if_pos ⟨rfl, hl⟩]
      refine ⟨a1, fun j hj => ?_, ?_, fun hz q hq k hk hj hlt => ?_⟩
      · rw [a2 j (by omega), setg, if_neg (fun h => by omega)]
      · rw [hnd.says h a1.pnt h2 hf.2]
        have : ptf R l = fst0 ks := by unfold ptf; rw [hRl]; rfl
        rw [this]
        exact a3
      · rw [hnd.says h hq h2 hf.2]
        by_cases hkl2 : k = l
        · subst hkl2
          rw [hRl] at hlt
          rw [k3 (q k) (by omega), sayR_low (by omega)]
          rfl
        · have e2 : (q l : Int) = (fst0 ks : Int) := by rw [hj l (by omega), hRl]
          have e3 : q l = fst0 ks := by omega
          rw [e3]
          by_cases hkk : lvl S N (ks.getD (fst0 ks) 0) ≤ (k : Int)
          · refine a4 (fun j hj => ?_) q hq k hkk hj hlt
            rw [setg, if_neg (fun h => by omega)]
            exact hz j (by omega)
          · exfalso
            have : R.getD k 0 = 0 := by rw [a2 k (by omega), setg, if_neg (fun h => by omega)]; exact hz k (by omega)
            omega
    · have hf1 : f = 1 := by have := hf.1; omega
      subst hf1
      have e : pathF N (n + 1) 1 L = L := by rw [pathF, if_neg (by omega)]
      rw [e]
      refine ⟨hL, fun j _ => rfl, by rw [sayR_low (by omega)]; rfl, fun hz q hq k hk hj hlt => ?_⟩
      rw [hz k hk] at hlt
      omega
theorem zero_pt (h : SzOk S) : PtL S (List.replicate S.length 0) := ⟨List.length_replicate, fun i hi => by
  rw [List.length_replicate] at hi
  have := h.each _ (getD_mem hi)
  rw [List.getD_eq_getElem?_getD, List.getElem?_replicate, if_pos hi]
  show (0 : Int) ≤ 0 ∧ (0 : Int) < S.getD i 0
  omega⟩
theorem zero_at (n j : Nat) : (List.replicate n (0 : Int)).getD j 0 = 0 := by
  rw [List.getD_eq_getElem?_getD, List.getElem?_replicate]
  split <;> rfl
/-- The classes ahead of k are those of a list. -/
def setP (L : List Int) (k : Nat) (p : Nat → Nat) : Nat → Nat := fun j => if j < k then (L.getD j 0).toNat else p j
theorem setP_zero (L : List Int) (p : Nat → Nat) : setP L 0 p = p := by funext j; simp [setP]
theorem setP_succ (L : List Int) (k : Nat) (p : Nat → Nat) : setP L k (upd p k (L.getD k 0).toNat) = setP L (k + 1) p := by
  funext j
  unfold setP upd
  by_cases h1 : j < k
  · rw [if_pos h1, if_pos (by omega)]
  · rw [if_neg h1]
    by_cases h2 : j = k
    · subst h2; rw [if_pos rfl, if_pos (by omega)]
    · rw [if_neg h2, if_neg (by omega)]
theorem setP_pnt {L : List Int} {p : Nat → Nat} (hL : PtL S L) (hp : Pnt S p) (k : Nat) : Pnt S (setP L k p) := fun j hj => by
  unfold setP
  by_cases h1 : j < k
  · rw [if_pos h1]
    have := hL.each j (by rw [hL.len]; exact hj)
    omega
  · rw [if_neg h1]; exact hp j hj
/-- A path is a point of which a ref is true, and none ahead of it is. -/
structure FstP (S : List Int) (N : List Nd) (f : Int) (L : List Int) : Prop where
  pt : PtL S L
  yes : sayR N (ptf L) f = true
  no : ∀ p, Pnt S p → ∀ k c : Nat, k < S.length → (c : Int) < L.getD k 0 → sayR N (setP L k (upd p k c)) f = false
theorem path_first {f : Int} (h : Ok S M N) (hf : hasR N f) (h0 : f ≠ 0) : FstP S N f (pathF N f.toNat f (List.replicate S.length 0)) := by
  obtain ⟨a1, a2, a3, a4⟩ := pathF_all h f.toNat f (List.replicate S.length 0) hf h0 (Nat.le_refl _) (zero_pt h.sz)
  generalize pathF N f.toNat f (List.replicate S.length 0) = L at *
  refine ⟨a1, a3, fun p hp k c hk hc => ?_⟩
  have hck : (c : Int) < S.getD k 0 := by have := a1.each k (by rw [a1.len]; exact hk); omega
  refine a4 (fun j _ => zero_at _ _) _ (setP_pnt a1 (hp.upd hck) k) k ?_ (fun j hj => ?_) ?_
  · rcases Int.lt_or_le (k : Int) (lvl S N f) with h1 | h1
    · exfalso
      rw [a2 k h1, zero_at] at hc
      omega
    · exact h1
  · unfold setP
    rw [if_pos hj]
    have := a1.each j (by rw [a1.len]; omega)
    omega
  · unfold setP
    rw [if_neg (Nat.lt_irrefl k), upd_at]
    exact hc
end
end Go.Proofs.Ytaafeflbanoncaa
