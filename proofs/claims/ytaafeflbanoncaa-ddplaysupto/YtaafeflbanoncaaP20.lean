/-
  Set by its contract. No condition.
-/
import Derived.Test.YtaafeflbanoncaaP17
import Derived.Test.YtaafeflbanoncaaP13
import Derived.Deep.DeepCutAuto
import Derived.Deep.CutBlock
namespace Go.Proofs.Ytaafeflbanoncaa
open Go.RowKit Go.Lib Go.Maps

/-- Bools in memory. -/
def BAt (w : World) (ao : Option Addr) (L : List Bool) : Prop := L = [] ∨ ∃ b off, ao = some ⟨b, off, none⟩ ∧ b < w.heap.size ∧ ∀ i, i < L.length → w.cell? ⟨b, off + i, none⟩ = some (.bool (L.getD i false))
theorem BAt.below {w w' : World} {ao : Option Addr} {L : List Bool} (h : BAt w ao L) (hb : Below w.heap.size w w') : BAt w' ao L := by
  rcases h with h | ⟨b, off, h1, h2, h3⟩
  · exact .inl h
  · exact .inr ⟨b, off, h1, Nat.lt_of_lt_of_le h2 hb.size, fun i hi => (hb.cell (p := ⟨b, off + i, none⟩) h2).trans (h3 i hi)⟩
theorem BAt.get {w : World} {ao : Option Addr} {L : List Bool} (h : BAt w ao L) {i : Nat} (hi : i < L.length) : ∃ b off, ao = some ⟨b, off, none⟩ ∧ b < w.heap.size ∧ w.cell? ⟨b, off + i, none⟩ = some (.bool (L.getD i false)) := by
  rcases h with h | ⟨b, off, h1, h2, h3⟩
  · rw [h] at hi; cases hi
  · exact ⟨b, off, h1, h2, h3 i hi⟩
def bitZ (b : Bool) : Int := if b then 1 else 0
def bitL (L : List Bool) : List Int := L.map bitZ
theorem bitL_length (L : List Bool) : (bitL L).length = L.length := by simp [bitL]
theorem bitL_get (L : List Bool) (i : Nat) : (bitL L).getD i 0 = bitZ (L.getD i false) := by
  unfold bitL
  rw [List.getD_eq_getElem?_getD, List.getD_eq_getElem?_getD, List.getElem?_map]
  cases L[i]? <;> rfl
/-- The kids as they are filled in. -/
def fill (B : List Bool) (k : Nat) : List Int := bitL (B.take k) ++ List.replicate (B.length - k) 0
theorem fill_zero (B : List Bool) : fill B 0 = List.replicate B.length 0 := by simp [fill, bitL]
theorem fill_all (B : List Bool) : fill B B.length = bitL B := by simp [fill]
theorem fill_length {B : List Bool} {k : Nat} (h : k ≤ B.length) : (fill B k).length = B.length := by simp [fill, bitL]; omega
theorem fill_set {B : List Bool} {k : Nat} (h : k < B.length) : (fill B k).set k (bitZ (B.getD k false)) = fill B (k + 1) := by
  unfold fill
  have e : (bitL (B.take k)).length = k := by rw [bitL_length, List.length_take]; omega
  rw [List.set_append_right _ _ (by rw [e]; exact Nat.le_refl _), e, Nat.sub_self, show B.length - k = (B.length - (k + 1)) + 1 by omega, List.replicate_succ, List.set_cons_zero, List.take_succ_eq_append_getElem h]
  unfold bitL
  rw [List.map_append, List.append_assoc]
  simp [List.getD_eq_getElem?_getD, h]
theorem fill_at {B : List Bool} {k : Nat} (h : k < B.length) : (fill B k).getD k 0 = 0 := by
  unfold fill
  have e : (bitL (B.take k)).length = k := by rw [bitL_length, List.length_take]; omega
  rw [List.getD_eq_getElem?_getD, List.getElem?_append_right (by rw [e]; exact Nat.le_refl _), e, Nat.sub_self, show B.length - k = (B.length - (k + 1)) + 1 by omega, List.replicate_succ]
  rfl
theorem fill_skip {B : List Bool} {k : Nat} (h : k < B.length) (hb : B.getD k false = false) : fill B (k + 1) = fill B k := by
  rw [← fill_set h, hb]
  apply ext_getD
  · simp
  · intro i hi
    rw [List.length_set] at hi
    by_cases e : i = k
    · subst e
      rw [fill_at h, List.getD_eq_getElem?_getD, List.getElem?_set_self hi]
      rfl
    · rw [List.getD_eq_getElem?_getD, List.getD_eq_getElem?_getD, List.getElem?_set_ne (fun h => e h.symm)]
section
variable {w : World} {a : Nat} {S : List Int} {M : Int} {N : List Nd} {m : Nat} {P : Nat → Prop} {l : Nat} {B : List Bool}
theorem set_may (hl : l < S.length) (hB : (B.length : Int) = S.getD l 0) : May S N (l : Int) (bitL B) := by
  refine ⟨by omega, by omega, by rw [bitL_length, Int.toNat_natCast]; exact hB, fun f hf => ?_⟩
  obtain ⟨b, _, rfl⟩ := List.mem_map.1 hf
  have h : ¬ 2 ≤ bitZ b ∧ 0 ≤ bitZ b := by cases b <;> decide
  exact ⟨⟨h.2, by omega⟩, by rw [lvl_low h.1]; omega⟩
theorem say_bit (b : Bool) (p : Nat → Nat) : sayR N p (bitZ b) = b := by
  have h : ¬ 2 ≤ bitZ b := by cases b <;> decide
  rw [sayR_low h]
  cases b <;> rfl
theorem set_says {f : Int} {N' : List Nd} (ok : Ok S M N) (k : MkP S M N (l : Int) (bitL B) f 0 N') : hasR N' f ∧ (∃ T, N' = N ++ T) ∧ ∀ p, Pnt S p → sayR N' p f = B.getD (p l) false := by
  refine ⟨(MkP.says ok (Pnt.zero ok.sz) k).1, ?_, fun p hp => ?_⟩
  · rcases k with ⟨_, _, h1, _⟩ | ⟨_, _, _, _, rfl⟩ | ⟨_, _, _, _, rfl⟩ | ⟨_, _, _, _, _, h1, _⟩ | ⟨_, _, _, _, _, _, rfl⟩
    · omega
    · exact ⟨[], by simp⟩
    · exact ⟨[], by simp⟩
    · omega
    · exact ⟨_, rfl⟩
  · rw [(MkP.says ok hp k).2.1, Int.toNat_natCast, bitL_get, say_bit]
theorem set_hang (hl : l < S.length) : Hang S (fun p => B.getD (p l) false) l := fun p p' _ _ hj => by
  show B.getD (p l) false = B.getD (p' l) false
  rw [hj l (Nat.le_refl _) hl]
theorem set_ins {r e : Int} {N' : List Nd} (ok : Ok S M N) (hl : l < S.length) (hB : (B.length : Int) = S.getD l 0) (k : MkP S M N (l : Int) (bitL B) r e N') : ins S M N (fun p => B.getD (p l) false) = (r, e, N') := by
  rw [ins_exp ok hl (set_hang hl)]
  have kk := kids_rep (step := ins S M) (G := fun c => bitZ (B.getD c false)) (N := N) (cuts S (fun p => B.getD (p l) false) l) 0 (fun i hi => by
    have e : (cuts S (fun p => B.getD (p l) false) l)[i] = cutP (fun p => B.getD (p l) false) l i := by simp [cuts]
    rw [e, Nat.zero_add]
    have h : ¬ 2 ≤ bitZ (B.getD i false) ∧ 0 ≤ bitZ (B.getD i false) := by cases B.getD i false <;> decide
    refine ins_rep ok ⟨⟨h.2, by omega⟩, fun p hp => ?_⟩
    rw [say_bit]
    show _ = B.getD (upd p l i l) false
    rw [upd_at])
  unfold expF
  rw [kk, if_pos rfl]
  have e1 : ((List.range (cuts S (fun p => B.getD (p l) false) l).length).map fun i => bitZ (B.getD (0 + i) false)) = bitL B := by
    apply ext_getD
    · rw [List.length_map, List.length_range, cuts_length, bitL_length]; omega
    · intro i hi
      rw [List.length_map, List.length_range, cuts_length] at hi
      have hi2 : i < (cuts S (fun p => B.getD (p l) false) l).length := by rw [cuts_length]; exact hi
      rw [bitL_get, List.getD_eq_getElem?_getD, List.getElem?_eq_getElem (by rw [List.length_map, List.length_range]; exact hi2), List.getElem_map, List.getElem_range, Nat.zero_add]
      rfl
  rw [e1]
  exact mkF_of ok.nod k
set_option maxRecDepth 100000 in
set_option maxHeartbeats 2000000 in
theorem set_ok {ao : Option Addr} {cap : Nat} (h : CA w a S M N m P) (hm : m ≤ 8192) (hl : l < S.length) (hB : (B.length : Int) = S.getD l 0) (hat : BAt w ao B) :
    Calls Try.prog 23 #[.pointer (some ⟨a, 0, none⟩), .int .i64 (l : Int), .slice ao B.length cap] w fun e w' => OpL a S M N P (fun p => B.getD (p l) false) w e w' := by
  have HH := hide h
  have HAT := hide hat
  have hsz := h.ok.sz.each _ (getD_mem hl)
  have hs0 : szL S (l : Int) = (B.length : Int) := by unfold szL; rw [if_pos (by omega), Int.toNat_natCast, hB]
  have SZ := sizeOf_any (l : Int) h
  rw [hs0] at SZ
  have HSZ := hide SZ
  have hB0 : 0 < B.length := by omega
  have hB1 : B.length ≤ 256 := by omega
  have MAY := hide (set_may (N := N) hl hB)
  have HB := hide hB
  have hmk := make_ints B.length (B.length : Int) rfl (by omega)
  have hne : ((B.length : Int) == 0) = false := beq_eq_false_iff_ne.2 (by omega)
  clear h hat hsz hs0 SZ hB
  go_enter Try.func23, Try.ntmps23
  go_upto_region 4 with (go_at_call 55; refine HSZ.out.mono ?_; rintro e w1 ⟨rfl, x1⟩; have X1 := hide x1; clear x1)
  clear HSZ
  have y2 : Below w1.heap.size w1 (w1.alloc (.cells (zC (List.replicate B.length 0)).toArray 3)) := al (Below.refl _ _) _
  have R2 : Hid (RwZ (w1.alloc (.cells (zC (List.replicate B.length 0)).toArray 3)) w1.heap.size (fill B 0)) := by unfold Hid; rw [fill_zero]; exact RwZ.made w1 _
  have X2 := hide (bt X1.out y2 (Nat.le_refl _))
  have OB : Hid (w.heap.size ≤ w1.heap.size) := X1.out.size
  clear y2
  go_upto_region 5 with fail
  generalize w1.alloc (.cells (zC (List.replicate B.length 0)).toArray 3) = w2 at *
  generalize w1.heap.size = ob at *
  clear hmk
  go_wp2
  go_loopw [28] (fun x wr => ∃ k : Nat, k ≤ B.length ∧ x = .int .i64 k ∧ Hid (RwZ wr ob (fill B k) ∧ Below w.heap.size w wr)) (fun x _ => B.length - (RowKit.intOf x).toNat)
  case atStart => exact ⟨0, Nat.zero_le _, rfl, R2.out, X2.out⟩
  case round =>
    obtain ⟨k, hk, rfl, I⟩ := hrel
    by_cases hlt : k < B.length
    · have hlt' : (k : Int) < B.length := by omega
      obtain ⟨b1, o1, rfl, hb1, g1⟩ := (HAT.out.below I.out.2).get hlt
      have f8 := I.out.1.fro k
      have q8 := I.out.1.cell (k := k) (by rw [fill_length (by omega)]; exact hlt)
      rw [fill_at hlt] at q8
      cases hbb : B.getD k false with
      | true =>
        rw [hbb] at g1
        have NX : Hid (RwZ (wr.setCell ⟨ob, k, none⟩ (.int .i64 1)) ob (fill B (k + 1)) ∧ Below w.heap.size w (wr.setCell ⟨ob, k, none⟩ (.int .i64 1))) := by
          refine ⟨?_, bl I.out.2 OB.out _ _⟩
          have := I.out.1.set k 1
          rw [← fill_set hlt, hbb]
          exact this
        clear hbb
        go_wp2
        go_roundw
        case rel => exact ⟨k + 1, by omega, by go_num, NX⟩
        case measure => simp [RowKit.intOf]; omega
      | false =>
        rw [hbb] at g1
        have NX : Hid (RwZ wr ob (fill B (k + 1)) ∧ Below w.heap.size w wr) := ⟨by rw [fill_skip hlt hbb]; exact I.out.1, I.out.2⟩
        clear hbb
        go_wp2
        go_roundw
        case rel => exact ⟨k + 1, by omega, by go_num, NX⟩
        case measure => simp [RowKit.intOf]; omega
    · have hlt' : ¬ (k : Int) < B.length := by omega
      obtain rfl : k = B.length := by omega
      have hR := I.out.1
      rw [fill_all] at hR
      have MK := (HH.out.below I.out.2).make (l : Int) (some ⟨ob, 0, none⟩) B.length (bitL B) (by rw [bitL_length]; omega) hR.zbk.at (by omega)
      rw [bitL_length] at MK
      have HMK := hide MK
      clear hR MK
      go_wp2_with (go_at_call 56; refine HMK.out.mono ?_; rintro e w6 ⟨r6, er6, N6, rfl, mk6, P6, ca6, k6, p6, _⟩; have MK6 := hide mk6; have CA6 := hide ca6.tight; have K6 := hide k6; have P6' := hide p6; clear mk6 ca6 k6 p6)
      go_ret2
      have hx : Kept P w w6 := (Kept.of_below I.out.2).trans K6.out
      refine ⟨r6, er6, N6, P6, rfl, CA6.out, hx, fun b hb => (P6'.out b hb).imp id (Nat.le_trans I.out.2.size), (set_hang hl).all, ?_⟩
      have hin := set_ins HH.out.ok hl HB.out MK6.out
      have hor : er6 = 0 ∨ (er6 = 2 ∧ r6 = 0 ∧ N6 = N) := by
        rcases MK6.out with ⟨h1, _⟩ | ⟨_, _, _, h1, _⟩ | ⟨_, _, _, h1, _⟩ | ⟨_, _, _, _, h1, h2, h3⟩ | ⟨_, _, _, _, _, h1, _⟩
        · exact absurd MAY.out h1
        · exact .inl h1
        · exact .inl h1
        · exact .inr ⟨h2, h1, h3⟩
        · exact .inl h1
      rcases hor with h1 | h1
      · subst h1
        obtain ⟨a1, a2, a3⟩ := set_says HH.out.ok MK6.out
        exact .inl ⟨rfl, a2, ⟨a1, a3⟩, hin⟩
      · exact .inr ⟨h1.1, h1.2.1, h1.2.2, N6, by rw [hin, h1.1, h1.2.1]⟩
end
end Go.Proofs.Ytaafeflbanoncaa
/-
  Eval by its contract. No condition.
-/
namespace Go.Proofs.Ytaafeflbanoncaa
open Go.RowKit Go.Lib Go.Maps

/-- A point, by the list of its classes. -/
def ptf (A : List Int) : Nat → Nat := fun i => (A.getD i 0).toNat
theorem PtL.pnt {S A : List Int} (h : PtL S A) : Pnt S (ptf A) := fun l hl => by
  have := h.each l (by rw [h.len]; exact hl)
  unfold ptf
  omega
section
variable {w : World} {a : Nat} {S : List Int} {M : Int} {N : List Nd} {m : Nat} {P : Nat → Prop} {f : Int}
set_option maxRecDepth 100000 in
set_option maxHeartbeats 2000000 in
theorem eval_ok {ao : Option Addr} {cap : Nat} {A : List Int} (h : CA w a S M N m P) (hf : hasR N f) (hA : PtL S A) (hz : ZAt w ao A) :
    Calls Try.prog 31 #[.pointer (some ⟨a, 0, none⟩), .int .i64 f, .slice ao A.length cap] w fun e w' => e = .returned (.tuple #[.bool (sayR N (ptf A) f), .int .i64 0]) ∧ Below w.heap.size w w' := by
  have HH := hide h
  have HF := hide hf
  have HA := hide hA
  have HZ := hide hz
  have hs12 := h.ok.sz.le
  have hlen := hA.len
  have y1 : Below w.heap.size w (w.alloc (.cells #[.int .i64 f] 3)) := al (Below.refl _ _) _
  have X1 := hide y1
  have AT := hide (areThere_any (some ⟨w.heap.size, 0, none⟩) 1 [f] (by simp) (zat_new w [f]) (h.below y1))
  have IP := hide (fun W (x : Below w.heap.size w W) => isPoint_ok ao cap A hA (hz.below x) (h.below x))
  have HLN := hide hlen
  clear h hf hA hz y1 hlen
  go_enter Try.func31, Try.ntmps31
  go_upto_block 0 with (first
    | (go_at_call 59; refine AT.out.mono ?_; rintro e w1 ⟨⟨b, rfl, hb⟩, x1⟩; have hbt := hb.2 (by intro z hz; simp at hz; rw [hz]; exact HF.out); subst hbt; have X2 := hide (bt X1.out x1 (Nat.le_refl _)); clear hb x1)
    | (go_at_call 67; refine (IP.out _ X2.out).mono ?_; rintro e w2 ⟨rfl, x2⟩; have X3 := hide (bt X2.out x2 (Nat.le_refl _)); clear x2))
  clear AT IP X1 X2
  go_wp2
  go_loopw [1] (fun x wr => ∃ f' : Int, x = .int .i64 f' ∧ Hid (hasR N f') ∧ Hid (sayR N (ptf A) f' = sayR N (ptf A) f) ∧ Hid (Below w.heap.size w wr)) (fun x _ => (RowKit.intOf x).toNat)
  case atStart => exact ⟨f, rfl, HF, rfl, X3⟩
  case round =>
    obtain ⟨f', rfl, HF', HE, XB⟩ := hrel
    by_cases h2 : 2 ≤ f'
    · have n0 : (f' != 0) = true := by simp; omega
      have n1 : (f' != 1) = true := by simp; omega
      have ok := HH.out.ok
      obtain ⟨l, ks, hn⟩ := ok.ndAt h2 HF'.out.2
      obtain ⟨i, hi⟩ : ∃ i : Nat, f' = (i : Int) + 2 := ⟨(f' - 2).toNat, by omega⟩
      have hat := hn.at_
      rw [show (f' - 2).toNat = i by omega] at hat
      have hp := HA.out.pnt
      have hkl := hn.cls hp
      have hl := hn.lt
      have HS := hide (hn.says ok hp h2 HF'.out.2)
      have HKD := hide (hn.kid _ hkl)
      have ND := (HH.out.below XB.out).node f'
      have HND := hide ND
      have HAT := hide hat
      have HI := hide hi
      have hll : l < A.length := by rw [HLN.out]; exact hl
      have hll' : (l : Int) < (A.length : Int) := by omega
      obtain ⟨bz, oz, rfl, hbz, gz⟩ := (HZ.out.below XB.out).get hll
      have hcl : ((A.getD l 0).toNat : Int) = A.getD l 0 := by have := (HA.out.each l hll).1; omega
      have hpl : ptf A l = (A.getD l 0).toNat := rfl
      rw [hpl] at HS HKD hkl
      obtain ⟨cl, hcl2⟩ : ∃ cl : Nat, (A.getD l 0).toNat = cl := ⟨_, rfl⟩
      rw [hcl2] at HS HKD hkl hcl
      rw [← hcl] at gz
      have hkl' : (cl : Int) < (ks.length : Int) := by omega
      have HKL := hide hkl
      have H2 := hide h2
      have GZ := hide gz
      clear ok hn hat hi hp hl ND hpl hcl2 hcl gz h2 hkl
      go_upto_region 5 with (go_at_call 21; refine HND.out.mono ?_; rintro e w3 ⟨⟨i', lv', ks', g, cp, hi', hf', rfl, o3, z3, l3⟩ | ⟨hno, _⟩, x3⟩; rotate_left; (exfalso; exact hno (by have h1 := H2.out; have h2 := HF'.out.2; omega)); have hii : i' = i := (by have := HI.out; omega); subst hii; have hks := hi'.symm.trans HAT.out; have hlk : lv' = (l : Int) ∧ ks' = ks := (by injection hks with hks; injection hks with h1 h2; exact ⟨h1, h2⟩); obtain ⟨h1, h2⟩ := hlk; subst h1 h2; clear hks hi' hf' o3; have Z3 := hide z3; have X5 := hide x3; clear z3 l3 x3)
      have y4 : Below w3.heap.size w3 (w3.alloc (.cells #[.int .i64 (l : Int), .slice (some ⟨g, 0, none⟩) ks'.length cp] 58)) := al (Below.refl _ _) _
      have nb : (w3.alloc (.cells #[.int .i64 (l : Int), .slice (some ⟨g, 0, none⟩) ks'.length cp] 58)).drew.heap[w3.heap.size]? = some (.cells #[.int .i64 (l : Int), .slice (some ⟨g, 0, none⟩) ks'.length cp] 58 (0, 0)) := heap_alloc_new w3 _
      have Y4' := hide (bt y4 (Below.refl _ (w3.alloc (.cells #[.int .i64 (l : Int), .slice (some ⟨g, 0, none⟩) ks'.length cp] 58))).drew (Nat.le_refl _))
      refine wp_unt (S := fun V => V = (w3.alloc (.cells #[.int .i64 (l : Int), .slice (some ⟨g, 0, none⟩) ks'.length cp] 58)).drew) 9 (by kernel_rfl) ?_
      generalize (w3.alloc (.cells #[.int .i64 (l : Int), .slice (some ⟨g, 0, none⟩) ks'.length cp] 58)).drew = w4 at *
      have z4 := (Z3.out.congr (w' := w4) (Y4'.out.block _ Z3.out.lt)).cell HKL.out
      have q3 := ((bt X5.out Y4'.out (Nat.le_refl _)).cell (p := ⟨bz, oz + l, none⟩) hbz).trans GZ.out
      have XN := hide (bt XB.out (bt X5.out Y4'.out (Nat.le_refl _)) (Nat.le_refl _))
      clear Y4' y4
      generalize w3.heap.size = nb4 at *
      have q0 : w4.cell? ⟨nb4, 0, none⟩ = some (.int .i64 (l : Int)) := by rw [cell_of_row _ _ _ _ _ _ nb]; rfl
      have q1 : w4.cell? ⟨nb4, 1, none⟩ = some (.slice (some ⟨g, 0, none⟩) ks'.length cp) := by rw [cell_of_row _ _ _ _ _ _ nb]; rfl
      obtain ⟨x, hx⟩ : ∃ x, ks'.getD cl 0 = x := ⟨_, rfl⟩
      rw [hx] at z4 HS HKD
      clear hx nb
      refine UntH.take (i := 0) (some 33) rfl rfl (by kernel_rfl) (by kernel_rfl) (by kernel_rfl) (by kernel_rfl) (fun _ _ _ _ h => h) (by rfl) rfl ?_
      apply Exists.intro
      refine ⟨fun w' hw' => ?_, ?_⟩
      · subst hw'
        go_simp
        first | done | rfl
      try simp only [Act.put, List.setIfInBounds_toArray, List.set_cons_zero, List.set_cons_succ]
      refine UntH.take (i := 1) (some 34) rfl rfl (by kernel_rfl) (by kernel_rfl) (by kernel_rfl) (by kernel_rfl) (fun _ _ _ _ h => h) (by rfl) rfl ?_
      apply Exists.intro
      refine ⟨fun w' hw' => ?_, ?_⟩
      · subst hw'
        go_simp
        first | done | rfl
      try simp only [Act.put, List.setIfInBounds_toArray, List.set_cons_zero, List.set_cons_succ]
      refine UntH.take (i := 2) (some 35) rfl rfl (by kernel_rfl) (by kernel_rfl) (by kernel_rfl) (by kernel_rfl) (fun _ _ _ _ h => h) (by rfl) rfl ?_
      apply Exists.intro
      refine ⟨fun w' hw' => ?_, ?_⟩
      · subst hw'
        go_simp
        first | done | rfl
      try simp only [Act.put, List.setIfInBounds_toArray, List.set_cons_zero, List.set_cons_succ]
      refine UntH.take (i := 3) (some 36) rfl rfl (by kernel_rfl) (by kernel_rfl) (by kernel_rfl) (by kernel_rfl) (fun _ _ _ _ h => h) (by rfl) rfl ?_
      apply Exists.intro
      refine ⟨fun w' hw' => ?_, ?_⟩
      · subst hw'
        go_simp
        first | done | rfl
      try simp only [Act.put, List.setIfInBounds_toArray, List.set_cons_zero, List.set_cons_succ]
      refine UntH.take (i := 4) (some 37) rfl rfl (by kernel_rfl) (by kernel_rfl) (by kernel_rfl) (by kernel_rfl) (fun _ _ _ _ h => h) (by rfl) rfl ?_
      apply Exists.intro
      refine ⟨fun w' hw' => ?_, ?_⟩
      · subst hw'
        go_simp
        first | done | rfl
      try simp only [Act.put, List.setIfInBounds_toArray, List.set_cons_zero, List.set_cons_succ]
      refine UntH.take (i := 5) (some 38) rfl rfl (by kernel_rfl) (by kernel_rfl) (by kernel_rfl) (by kernel_rfl) (fun _ _ _ _ h => h) (by rfl) rfl ?_
      apply Exists.intro
      refine ⟨fun w' hw' => ?_, ?_⟩
      · subst hw'
        go_simp
        first | done | rfl
      try simp only [Act.put, List.setIfInBounds_toArray, List.set_cons_zero, List.set_cons_succ]
      refine UntH.take (i := 6) (some 39) rfl rfl (by kernel_rfl) (by kernel_rfl) (by kernel_rfl) (by kernel_rfl) (fun _ _ _ _ h => h) (by rfl) rfl ?_
      apply Exists.intro
      refine ⟨fun w' hw' => ?_, ?_⟩
      · subst hw'
        go_simp
        first | done | rfl
      try simp only [Act.put, List.setIfInBounds_toArray, List.set_cons_zero, List.set_cons_succ]
      refine UntH.take (i := 7) (some 40) rfl rfl (by kernel_rfl) (by kernel_rfl) (by kernel_rfl) (by kernel_rfl) (fun _ _ _ _ h => h) (by rfl) rfl ?_
      apply Exists.intro
      refine ⟨fun w' hw' => ?_, ?_⟩
      · subst hw'
        go_simp
        first | done | rfl
      try simp only [Act.put, List.setIfInBounds_toArray, List.set_cons_zero, List.set_cons_succ]
      refine UntH.take (i := 8) (some 41) rfl rfl (by kernel_rfl) (by kernel_rfl) (by kernel_rfl) (by kernel_rfl) (fun _ _ _ _ h => h) (by rfl) rfl ?_
      apply Exists.intro
      refine ⟨fun w' hw' => ?_, ?_⟩
      · subst hw'
        go_simp
        first | done | rfl
      try simp only [Act.put, List.setIfInBounds_toArray, List.set_cons_zero, List.set_cons_succ]
      refine UntH.last (by kernel_rfl) rfl (by kernel_rfl) (by kernel_rfl) (fun K hK => ?_)
      go_simp
      refine hK _ _ ?_
      clear hK K
      go_wp2
      go_roundw
      case rel => exact ⟨x, rfl, ⟨HKD.out.1, by have h1 := HKD.out.2.1; have h2 := HF'.out.2; omega⟩, HS.out.symm.trans HE.out, XN⟩
      case measure => have h1 := HKD.out; have h2 := HI.out; simp [RowKit.intOf]; omega
    · have hlo := HF'.out.1
      have HD := hide (HE.out.symm.trans (sayR_low h2))
      by_cases h0 : f' = 0
      · subst h0
        go_wp2
        go_ret2
        exact ⟨by rw [HD.out]; rfl, XB.out⟩
      · obtain rfl : f' = 1 := by omega
        go_wp2
        go_ret2
        exact ⟨by rw [HD.out]; rfl, XB.out⟩
end
end Go.Proofs.Ytaafeflbanoncaa
