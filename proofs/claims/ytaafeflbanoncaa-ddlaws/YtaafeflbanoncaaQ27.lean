/-
  Eval by its contract. No condition.
-/
import Derived.Test.YtaafeflbanoncaaQ18
import Derived.Test.YtaafeflbanoncaaQ22
import Derived.Deep.DeepCutAuto
import Derived.Deep.CutBlock
namespace Go.Proofs.Ytaafeflbanoncaa
open Go.RowKit Go.Lib Go.Maps

/-- A point, by the list of its classes. -/
def ptf (A : List Int) : Nat → Nat := fun i => (A.getD i 0).toNat
theorem PtL.pnt {S A : List Int} (h : PtL S A) : Pnt S (ptf A) := fun l hl => by
  have := h.each l (by rw [h.len]; exact hl)
  unfold ptf
  omega
section
variable {w : World} {a : Nat} {S : List Int} {M : Int} {N : List Nd} {m : Nat} {P : Nat → Prop} {f : Int}
set_option maxRecDepth 100000 in
set_option maxHeartbeats 2000000 in
theorem eval_ok {ao : Option Addr} {cap : Nat} {A : List Int} (h : CA w a S M N m P) (hf : hasR N f) (hA : PtL S A) (hz : ZAt w ao A) :
    Calls Try.prog 31 #[.pointer (some ⟨a, 0, none⟩), .int .i64 f, .slice ao A.length cap] w fun e w' => e = .returned (.tuple #[.bool (sayR N (ptf A) f), .int .i64 0]) ∧ Below w.heap.size w w' := by
  have HH := hide h
  have HF := hide hf
  have HA := hide hA
  have HZ := hide hz
  have hs12 := h.ok.sz.le
  have hlen := hA.len
  have y1 : Below w.heap.size w (w.alloc (.cells #[.int .i64 f] 3)) := al (Below.refl _ _) _
  have X1 := hide y1
  have AT := hide (areThere_any (some ⟨w.heap.size, 0, none⟩) 1 [f] (by simp) (zat_new w [f]) (h.below y1))
  have IP := hide (fun W (x : Below w.heap.size w W) => isPoint_ok ao cap A hA (hz.below x) (h.below x))
  have HLN := hide hlen
  clear h hf hA hz y1 hlen
  go_enter Try.func31, Try.ntmps31
  go_upto_block 0 with (first
    | (go_at_call 59; refine AT.out.mono ?_; rintro e w1 ⟨⟨b, rfl, hb⟩, x1⟩; have hbt := hb.2 (by intro z hz; simp at hz; rw [hz]; exact HF.out); subst hbt; have X2 := hide (bt X1.out x1 (Nat.le_refl _)); clear hb x1)
    | (go_at_call 67; refine (IP.out _ X2.out).mono ?_; rintro e w2 ⟨rfl, x2⟩; have X3 := hide (bt X2.out x2 (Nat.le_refl _)); clear x2))
  clear AT IP X1 X2
  go_wp2
  go_loopw [1] (fun x wr => ∃ f' : Int, x = .int .i64 f' ∧ Hid (hasR N f') ∧ Hid (sayR N (ptf A) f' = sayR N (ptf A) f) ∧ Hid (Below w.heap.size w wr)) (fun x _ => (RowKit.intOf x).toNat)
  case atStart => exact ⟨f, rfl, HF, rfl, X3⟩
  case round =>
    obtain ⟨f', rfl, HF', HE, XB⟩ := hrel
    by_cases h2 : 2 ≤ f'
    · have n0 : (f' != 0) = true := by simp; omega
      have n1 : (f' != 1) = true := by simp; omega
      have ok := HH.out.ok
      obtain ⟨l, ks, hn⟩ := ok.ndAt h2 HF'.out.2
      obtain ⟨i, hi⟩ : ∃ i : Nat, f' = (i : Int) + 2 := ⟨(f' - 2).toNat, by omega⟩
      have hat := hn.at_
      rw [show (f' - 2).toNat = i by omega] at hat
      have hp := HA.out.pnt
      have hkl := hn.cls hp
      have hl := hn.lt
      have HS := hide (hn.says ok hp h2 HF'.out.2)
      have HKD := hide (hn.kid _ hkl)
      have ND := (HH.out.below XB.out).node f'
      have HND := hide ND
      have HAT := hide hat
      have HI := hide hi
      have hll : l < A.length := by rw [HLN.out]; exact hl
      have hll' : (l : Int) < (A.length : Int) := by omega
      obtain ⟨bz, oz, rfl, hbz, gz⟩ := (HZ.out.below XB.out).get hll
      have hcl : ((A.getD l 0).toNat : Int) = A.getD l 0 := by have := (HA.out.each l hll).1; omega
      have hpl : ptf A l = (A.getD l 0).toNat := rfl
      rw [hpl] at HS HKD hkl
      obtain ⟨cl, hcl2⟩ : ∃ cl : Nat, (A.getD l 0).toNat = cl := ⟨_, rfl⟩
      rw [hcl2] at HS HKD hkl hcl
      rw [← hcl] at gz
      have hkl' : (cl : Int) < (ks.length : Int) := by omega
      have HKL := hide hkl
      have H2 := hide h2
      have GZ := hide gz
      clear ok hn hat hi hp hl ND hpl hcl2 hcl gz h2 hkl
      go_upto_region 5 with (go_at_call 21; refine HND.out.mono ?_; rintro e w3 ⟨⟨i', lv', ks', g, cp, hi', hf', rfl, o3, z3, l3⟩ | ⟨hno, _⟩, x3⟩; rotate_left; (exfalso; exact hno (by have h1 := H2.out; have h2 := HF'.out.2; omega)); have hii : i' = i := (by have := HI.out; omega); subst hii; have hks := hi'.symm.trans HAT.out; have hlk : lv' = (l : Int) ∧ ks' = ks := (by injection hks with hks; injection hks with h1 h2; exact ⟨h1, h2⟩); obtain ⟨h1, h2⟩ := hlk; subst h1 h2; clear hks hi' hf' o3; have Z3 := hide z3; have X5 := hide x3; clear z3 l3 x3)
      have y4 : Below w3.heap.size w3 (w3.alloc (.cells #[.int .i64 (l : Int), .slice (some ⟨g, 0, none⟩) ks'.length cp] 58)) := al (Below.refl _ _) _
      have nb : (w3.alloc (.cells #[.int .i64 (l : Int), .slice (some ⟨g, 0, none⟩) ks'.length cp] 58)).drew.heap[w3.heap.size]? = some (.cells #[.int .i64 (l : Int), .slice (some ⟨g, 0, none⟩) ks'.length cp] 58 (0, 0)) := heap_alloc_new w3 _
      have Y4' := hide (bt y4 (Below.refl _ (w3.alloc (.cells #[.int .i64 (l : Int), .slice (some ⟨g, 0, none⟩) ks'.length cp] 58))).drew (Nat.le_refl _))
      refine wp_unt (S := fun V => V = (w3.alloc (.cells #[.int .i64 (l : Int), .slice (some ⟨g, 0, none⟩) ks'.length cp] 58)).drew) 9 (by kernel_rfl) ?_
      generalize (w3.alloc (.cells #[.int .i64 (l : Int), .slice (some ⟨g, 0, none⟩) ks'.length cp] 58)).drew = w4 at *
      have z4 := (Z3.out.congr (w' := w4) (Y4'.out.block _ Z3.out.lt)).cell HKL.out
      have q3 := ((bt X5.out Y4'.out (Nat.le_refl _)).cell (p := ⟨bz, oz + l, none⟩) hbz).trans GZ.out
      have XN := hide (bt XB.out (bt X5.out Y4'.out (Nat.le_refl _)) (Nat.le_refl _))
      clear Y4' y4
      generalize w3.heap.size = nb4 at *
      have q0 : w4.cell? ⟨nb4, 0, none⟩ = some (.int .i64 (l : Int)) := by rw [cell_of_row _ _ _ _ _ _ nb]; rfl
      have q1 : w4.cell? ⟨nb4, 1, none⟩ = some (.slice (some ⟨g, 0, none⟩) ks'.length cp) := by rw [cell_of_row _ _ _ _ _ _ nb]; rfl
      obtain ⟨x, hx⟩ : ∃ x, ks'.getD cl 0 = x := ⟨_, rfl⟩
      rw [hx] at z4 HS HKD
      clear hx nb
      refine UntH.take (i := 0) (some 33) rfl rfl (by kernel_rfl) (by kernel_rfl) (by kernel_rfl) (by kernel_rfl) (fun _ _ _ _ h => h) (by rfl) rfl ?_
      apply Exists.intro
      refine ⟨fun w' hw' => ?_, ?_⟩
      · subst hw'
        go_simp
        first | done | rfl
      try simp only [Act.put, List.setIfInBounds_toArray, List.set_cons_zero, List.set_cons_succ]
      refine UntH.take (i := 1) (some 34) rfl rfl (by kernel_rfl) (by kernel_rfl) (by kernel_rfl) (by kernel_rfl) (fun _ _ _ _ h => h) (by rfl) rfl ?_
      apply Exists.intro
      refine ⟨fun w' hw' => ?_, ?_⟩
      · subst hw'
        go_simp
        first | done | rfl
      try simp only [Act.put, List.setIfInBounds_toArray, List.set_cons_zero, List.set_cons_succ]
      refine UntH.take (i := 2) (some 35) rfl rfl (by kernel_rfl) (by kernel_rfl) (by kernel_rfl) (by kernel_rfl) (fun _ _ _ _ h => h) (by rfl) rfl ?_
      apply Exists.intro
      refine ⟨fun w' hw' => ?_, ?_⟩
      · subst hw'
        go_simp
        first | done | rfl
      try simp only [Act.put, List.setIfInBounds_toArray, List.set_cons_zero, List.set_cons_succ]
      refine UntH.take (i := 3) (some 36) rfl rfl (by kernel_rfl) (by kernel_rfl) (by kernel_rfl) (by kernel_rfl) (fun _ _ _ _ h => h) (by rfl) rfl ?_
      apply Exists.intro
      refine ⟨fun w' hw' => ?_, ?_⟩
      · subst hw'
        go_simp
        first | done | rfl
      try simp only [Act.put, List.setIfInBounds_toArray, List.set_cons_zero, List.set_cons_succ]
      refine UntH.take (i := 4) (some 37) rfl rfl (by kernel_rfl) (by kernel_rfl) (by kernel_rfl) (by kernel_rfl) (fun _ _ _ _ h => h) (by rfl) rfl ?_
      apply Exists.intro
      refine ⟨fun w' hw' => ?_, ?_⟩
      · subst hw'
        go_simp
        first | done | rfl
      try simp only [Act.put, List.setIfInBounds_toArray, List.set_cons_zero, List.set_cons_succ]
      refine UntH.take (i := 5) (some 38) rfl rfl (by kernel_rfl) (by kernel_rfl) (by kernel_rfl) (by kernel_rfl) (fun _ _ _ _ h => h) (by rfl) rfl ?_
      apply Exists.intro
      refine ⟨fun w' hw' => ?_, ?_⟩
      · subst hw'
        go_simp
        first | done | rfl
      try simp only [Act.put, List.setIfInBounds_toArray, List.set_cons_zero, List.set_cons_succ]
      refine UntH.take (i := 6) (some 39) rfl rfl (by kernel_rfl) (by kernel_rfl) (by kernel_rfl) (by kernel_rfl) (fun _ _ _ _ h => h) (by rfl) rfl ?_
      apply Exists.intro
      refine ⟨fun w' hw' => ?_, ?_⟩
      · subst hw'
        go_simp
        first | done | rfl
      try simp only [Act.put, List.setIfInBounds_toArray, List.set_cons_zero, List.set_cons_succ]
      refine UntH.take (i := 7) (some 40) rfl rfl (by kernel_rfl) (by kernel_rfl) (by kernel_rfl) (by kernel_rfl) (fun _ _ _ _ h => h) (by rfl) rfl ?_
      apply Exists.intro
      refine ⟨fun w' hw' => ?_, ?_⟩
      · subst hw'
        go_simp
        first | done | rfl
      try simp only [Act.put, List.setIfInBounds_toArray, List.set_cons_zero, List.set_cons_succ]
      refine UntH.take (i := 8) (some 41) rfl rfl (by kernel_rfl) (by kernel_rfl) (by kernel_rfl) (by kernel_rfl) (fun _ _ _ _ h => h) (by rfl) rfl ?_
      apply Exists.intro
      refine ⟨fun w' hw' => ?_, ?_⟩
      · subst hw'
        go_simp
        first | done | rfl
      try simp only [Act.put, List.setIfInBounds_toArray, List.set_cons_zero, List.set_cons_succ]
      refine UntH.last (by kernel_rfl) rfl (by kernel_rfl) (by kernel_rfl) (fun K hK => ?_)
      go_simp
      refine hK _ _ ?_
      clear hK K
      go_wp2
      go_roundw
      case rel => exact ⟨x, rfl, ⟨HKD.out.1, by have h1 := HKD.out.2.1; have h2 := HF'.out.2; omega⟩, HS.out.symm.trans HE.out, XN⟩
      case measure => have h1 := HKD.out; have h2 := HI.out; simp [RowKit.intOf]; omega
    · have hlo := HF'.out.1
      have HD := hide (HE.out.symm.trans (sayR_low h2))
      by_cases h0 : f' = 0
      · subst h0
        go_wp2
        go_ret2
        exact ⟨by rw [HD.out]; rfl, XB.out⟩
      · obtain rfl : f' = 1 := by omega
        go_wp2
        go_ret2
        exact ⟨by rw [HD.out]; rfl, XB.out⟩
end
end Go.Proofs.Ytaafeflbanoncaa
