/-
  SpanMakes, walked: whatever it is given, it answers true; nothing that was there has turned. Condition: each list takes no more than a process can hold.
-/
import Derived.Test.YtljagefcgijmlaaApS
namespace Go.Proofs.Ytljagefcgijmlaa
open Go.RowKit Go.Lib

/-- What Make answers. -/
def MkIs (K A : List Spn) (E : Int) : Prop := ((∀ s ∈ K, Bnd s) ∧ IsSet A ∧ (∀ n, memB n A = memB n K) ∧ E = 0) ∨ ((¬ ∀ s ∈ K, Bnd s) ∧ A = [] ∧ E = 20)
theorem MkIs.one {K A A' : List Spn} {E E' : Int} (h : MkIs K A E) (h' : MkIs K A' E') : A' = A ∧ E' = E := by
  rcases h with ⟨a, b, c, d⟩ | ⟨a, b, c⟩ <;> rcases h' with ⟨a', b', c', d'⟩ | ⟨a', b', c'⟩
  · exact ⟨IsSet.unique b' b (fun n => (c' n).trans (c n).symm), d'.trans d.symm⟩
  · exact absurd a a'
  · exact absurd a' a
  · exact ⟨b'.trans b.symm, c'.trans c.symm⟩
theorem make_all (ao : Option Addr) (cap : Nat) (L : List Spn) (w : World) (hl : L.length ≤ 4294967296) (hat : SpAt w ao L) :
    Calls Try.prog 14 #[.slice ao L.length cap] w fun e w' => (∃ v A E, e = .returned (.tuple #[v, .int .i64 E]) ∧ OwnS w' w.heap.size v A ∧ MkIs L A E ∧ A.length ≤ L.length) ∧ Below w.heap.size w w' :=
  (make_any ao cap L w hl hat).mono fun e w' ⟨x, h⟩ => by
    rcases h with ⟨a, v, M, h1, h2, h3, h4, h5⟩ | ⟨a, h1⟩
    · exact ⟨⟨v, M, 0, h1, h2, .inl ⟨a, h3, h4, rfl⟩, h5⟩, x⟩
    · exact ⟨⟨_, [], 20, h1, OwnS.nil _ _, .inr ⟨a, rfl, rfl⟩, Nat.zero_le _⟩, x⟩
theorem refMake_all (ao : Option Addr) (cap : Nat) (L : List Spn) (w : World) (hl : L.length ≤ 4294967296) (hat : SpAt w ao L) (hcap : L.length ≤ cap) (hz : ao = none → cap = 0) :
    Calls Try.prog 16 #[.slice ao L.length cap] w fun e w' => (∃ v A E, e = .returned (.tuple #[v, .int .i64 E]) ∧ OwnS w' w.heap.size v A ∧ MkIs L A E) ∧ Below w.heap.size w w' :=
  (refMake_any ao cap L w hl hat hcap hz).mono fun e w' ⟨x, h⟩ => by
    rcases h with ⟨a, v, M, h1, h2, h3, h4, h5⟩ | ⟨a, h1⟩
    · exact ⟨⟨v, M, 0, h1, h2, .inl ⟨a, h3, h4, rfl⟩⟩, x⟩
    · exact ⟨⟨_, [], 20, h1, OwnS.nil _ _, .inr ⟨a, rfl, rfl⟩⟩, x⟩
theorem lentL_at {w : World} {base g n : Nat} {L : List Spn} (h : OwnS w base (.slice (some ⟨g, 0, none⟩) n n) (lentL L)) : SpAt w (some ⟨g, 0, none⟩) L := by
  obtain ⟨a, c, e, h1, _⟩ := h.shape
  injection e with e1 e2 e3
  subst e1
  have := h1.take L.length
  rwa [show (lentL L).take L.length = L by simp [lentL]] at this
theorem al {w w' : World} (h : Below w.heap.size w w') (o : Obj) : Below w.heap.size w (w'.alloc o) := h.alloc h.size o

theorem upd_le {AA : Nat → List Spn} {i b : Nat} {A : List Spn} (h : ∀ j, (AA j).length ≤ b) (hA : A.length ≤ b) : ∀ j, ((fun j => if j = i then A else AA j) j).length ≤ b := by
  intro j
  by_cases hj : j = i
  · simp only [hj, if_true]; exact hA
  · simp only [hj, if_false]; exact h j
theorem one_is {AA : Nat → List Spn} {i m : Nat} {v : Value} {A : List Spn} {w : World} {base : Nat} (hA : AA i = A) (hm : m = i) (ho : OwnS w base v A) : ∀ t (ht : t < ([⟨v, A.length⟩] : List LD).length), (([⟨v, A.length⟩] : List LD)[t]).n = (AA (m + t)).length ∧ OwnS w base (([⟨v, A.length⟩] : List LD)[t]).v (AA (m + t)) := by
  intro t ht
  obtain rfl : t = 0 := by simp at ht; omega
  rw [Nat.add_zero, hm, hA]
  exact ⟨rfl, ho⟩

set_option maxRecDepth 100000 in
set_option maxHeartbeats 4000000 in
theorem spanMakes_any (aL aM : Option Addr) (cL cM : Nat) (L M : List Spn) (n : Int) (w : World) (hlL : L.length ≤ 140737488351232) (hlM : M.length ≤ 140737488351232) (hatL : SpAt w aL L) (hatM : SpAt w aM M) (hcL : L.length ≤ cL) (hcM : M.length ≤ cM) (hzL : aL = none → cL = 0) (hzM : aM = none → cM = 0) :
    Calls Try.prog 3 #[.slice aL L.length cL, .slice aM M.length cM, .int .i64 n] w fun e w' => e = .returned (.bool true) ∧ Below w.heap.size w w' := by
  have hadd := fun w => addsUp_any (L.length : Int) (M.length : Int) (by omega) (by omega) w
  obtain ⟨LL, hLL⟩ : ∃ LL : Nat → List Spn, LL = fun i => if i = 2 then M else L := ⟨_, rfl⟩
  obtain ⟨aa, haa⟩ : ∃ aa : Nat → Option Addr, aa = fun i => if i = 2 then aM else aL := ⟨_, rfl⟩
  obtain ⟨cc, hcc⟩ : ∃ cc : Nat → Nat, cc = fun i => if i = 2 then cM else cL := ⟨_, rfl⟩
  have hll : L.length + M.length ≤ 2147483647 → ∀ i, (LL i).length ≤ 2147483647 := fun hs i => by rw [hLL]; simp only []; split <;> omega
  have hca : ∀ i, (LL i).length ≤ cc i ∧ (aa i = none → cc i = 0) := fun i => by
    rw [hLL, hcc, haa]; simp only []; split
    · exact ⟨hcM, hzM⟩
    · exact ⟨hcL, hzL⟩
  have hsp : ∀ W, Below w.heap.size w W → ∀ i, SpAt W (aa i) (LL i) := fun W x i => by
    rw [hLL, haa]; simp only []; split
    · exact hatM.below x
    · exact hatL.below x
  have hce : ∀ W : World, ∀ i, i < 4 → (W.alloc (.cells #[.slice aL L.length cL, .slice aL L.length cL, .slice aM M.length cM, .slice aL L.length cL] 22)).cell? ⟨W.heap.size, i, none⟩ = some (.slice (aa i) (LL i).length (cc i)) := fun W i hi => by
    rw [hLL, haa, hcc]
    match i, hi with
    | 0, _ => simp
    | 1, _ => simp
    | 2, _ => simp
    | 3, _ => simp
  have HLL := hide hll
  have HCA := hide hca
  have HSP := hide hsp
  have HCE := hide hce
  obtain ⟨i22, hj, hy0, hy1, hy2⟩ : ∃ i, Try.prog.info? 22 = some i ∧ i.zero = some (.slice none 0 0) ∧ i.size = 1 ∧ i.bytes = 24 := info_parts Try.info22
  clear hll hca hsp hce hLL haa hcc hatL hatM hcL hcM hzL hzM
  go_enter Try.func3, Try.ntmps3
  go_wp2_with (first
    | (go_at_call 8; refine (hadd _).mono ?_; rintro e w0 ⟨⟨N, rfl, hN0, hN1, hN2⟩, hw0⟩; subst hw0)
    | (go_at_call 9; refine (awake_any _).mono ?_; rintro e w1 ⟨rfl, x1⟩; have X1 := hide x1; clear x1))
  · go_ret
    exact ⟨rfl, Below.refl _ _⟩
  have hsm : L.length + M.length ≤ 2147483647 := by
    have : N = L.length + M.length := hN2 (by omega)
    omega
  have HLL1 := hide (HLL.out hsm)
  have HC1 := hide (HCE.out w1)
  have HX := hide (al X1.out (.cells #[.slice aL L.length cL, .slice aL L.length cL, .slice aM M.length cM, .slice aL L.length cL] 22))
  have HAB : Hid (w1.heap.size < (w1.alloc (.cells #[.slice aL L.length cL, .slice aL L.length cL, .slice aM M.length cM, .slice aL L.length cL] 22)).heap.size) := by unfold Hid; simp
  generalize w1.alloc (.cells #[.slice aL L.length cL, .slice aL L.length cL, .slice aM M.length cM, .slice aL L.length cL] 22) = W1 at *
  generalize w1.heap.size = ab at *
  have HSP1 := hide (HSP.out W1 HX.out)
  have HW1 := hide (Nat.le_refl W1.heap.size)
  clear HSP HCE X1 HLL
  go_loopw [9, 10, 11] (fun o wv x wr => ∃ i : Nat, i ≤ 4 ∧ x = .int .i64 i ∧ ∃ AA D E, D.length = i ∧ E.length = i ∧ Hid (∀ j, (AA j).length ≤ 2147483647) ∧ ApS W1 W1.heap.size AA o wv D E wr) (fun _ _ x _ => 4 - (RowKit.intOf x).toNat)
  case atStart => exact ⟨0, by omega, rfl, fun _ => [], [], [], rfl, rfl, fun _ => Nat.zero_le _, ApS.nil _ _ _⟩
  case round =>
    obtain ⟨i, hi4, rfl, AA, D, E, hDl, hEl, HAA, S1⟩ := hrel
    by_cases hlt : i < 4
    · have hlt' : (i : Int) < 4 := by omega
      have hx1 : Below W1.heap.size W1 wr := S1.below
      have hat := (HSP1.out i).below hx1
      have c0 := (hx1.cell (p := ⟨ab, i, none⟩) HAB.out).trans (HC1.out i hlt)
      have hab : ab < wr.heap.size := Nat.lt_of_lt_of_le HAB.out hx1.size
      have hk := HLL1.out i
      obtain ⟨hca1, hca2⟩ := HCA.out i
      have HDL := hide hDl
      have HEL := hide hEl
      have HAT := hide hat
      generalize LL i = K at *
      generalize aa i = ai at *
      generalize cc i = ci at *
      have HCA1 := hide hca1
      have HCA2 := hide hca2
      have i1 : (K.length : Int) ≤ (K.length : Int) + 4 := by omega
      have hlen := lent_any ai ci K wr (by omega) hat
      have HWr : Hid (W1.heap.size ≤ wr.heap.size) := hx1.size
      clear hat hx1 hDl hEl hca1 hca2
      rename World => wR
      go_wp2_with (first
        | (go_at_call 10; refine hlen.mono ?_; rintro e w2 ⟨rfl, o2, x2⟩; have c2 := (x2.cell (p := ⟨ab, i, none⟩) hab).trans c0; have T2 := hide (lentL_at o2); have O2 := hide o2; have X2 := hide x2; clear o2 x2 hlen)
        | (go_at_call 11; refine (right_any _ _ K w2 (by omega) T2.out).mono ?_; rintro e w3 ⟨rfl, x3⟩; have T3 := hide (T2.out.below x3); have O3 := hide (O2.out.below x3); have X3 := hide (bt X2.out x3 (Nat.le_refl _)); clear x3 c2)
        | (go_at_call 12; refine (has_any _ _ K n w3 (by omega) T3.out).mono ?_; rintro e w4 ⟨rfl, x4⟩; have T4 := hide (T3.out.below x4); have O4 := hide (O3.out.below x4); have X4 := hide (bt X3.out x4 (Nat.le_refl _)); clear x4)
        | (go_at_call 13; refine (size_any _ _ K w4 (by omega) T4.out).mono ?_; rintro e w5 ⟨rfl, x5⟩; have T5 := hide (T4.out.below x5); have O5 := hide (O4.out.below x5); have X5 := hide (bt X4.out x5 (Nat.le_refl _)); clear x5)
        | (go_at_call 14; refine (make_all _ _ K w5 (by omega) T5.out).mono ?_; rintro e w6 ⟨⟨v6, A, E6, rfl, o6, hm6, hA6⟩, x6⟩; have O6 := hide (O5.out.below x6); have P6 := hide o6; have M6 := hide hm6; have X6 := hide (bt X5.out x6 (Nat.le_refl _)); have H56 : Hid (wR.heap.size < w5.heap.size) := (O5.out.lt wR.heap.size rfl).2; have c6 := (X6.out.cell (p := ⟨ab, i, none⟩) hab).trans c0; clear x6 o6 hm6)
        | (go_at_call 15; refine (whole_any ai wR.heap.size ci wR.heap.size K w6 (by omega) (HAT.out.below X6.out) O6.out).mono ?_; rintro e w7 ⟨rfl, k7⟩; have X7 : Hid (Below wR.heap.size wR w7) := (X6.out.trans (k7.below X6.out.size (fun b hb => by rw [hb]; exact Nat.le_refl _))); have P7 := hide (P6.out.kept k7 (fun k hk h => by have h1 := (P6.out.lt k hk).1; have h2 := H56.out; omega)); have c7 := (X7.out.cell (p := ⟨ab, i, none⟩) hab).trans c0; clear k7 c6)
        | (go_at_call 16; refine (refMake_all ai ci K w7 (by omega) (HAT.out.below X7.out) HCA1.out HCA2.out).mono ?_; rintro e w8 ⟨⟨v8, A8, E8, rfl, o8, hm8⟩, x8⟩; obtain ⟨hA8, hE8⟩ := M6.out.one hm8; subst hA8 hE8; have P8 := hide (P7.out.below x8); have Q8 := hide o8; have X8 := hide (bt X7.out x8 (Nat.le_refl _)); have c8 := (X8.out.cell (p := ⟨ab, i, none⟩) hab).trans c0; clear x8 o8 hm8 c7)
        | (go_at_call 17; refine (refRight_any ai ci K w8 (by omega) (HAT.out.below X8.out)).mono ?_; rintro e w9 ⟨rfl, x9⟩; have P9 := hide (P8.out.below x9); have Q9 := hide (Q8.out.below x9); have X9 := hide (bt X8.out x9 (Nat.le_refl _)); have c9 := (X9.out.cell (p := ⟨ab, i, none⟩) hab).trans c0; clear x9 c8)
        | (go_at_call 18; refine (refHas_any ai ci K n w9 (by omega) (HAT.out.below X9.out)).mono ?_; rintro e w10 ⟨rfl, x10⟩; have P10 := hide (P9.out.below x10); have Q10 := hide (Q9.out.below x10); have X10 := hide (bt X9.out x10 (Nat.le_refl _)); have c10 := (X10.out.cell (p := ⟨ab, i, none⟩) hab).trans c0; clear x10 c9)
        | (go_at_call 19; refine (refSize_any ai ci K w10 (by omega) (HAT.out.below X10.out)).mono ?_; rintro e w11 ⟨rfl, x11⟩; have P11 := hide (P10.out.below x11); have Q11 := hide (Q10.out.below x11); have X11 := hide (bt X10.out x11 (Nat.le_refl _)); have S11 := S1.next HW1.out X11.out; have HFR : Hid (∀ d ∈ D, ∀ k, d.v.ownBlock = some k → k < wR.heap.size) := (fun d hd k hk => by obtain ⟨j, hj, rfl⟩ := List.getElem_of_mem hd; exact (World.ownsRow.lt (S1.ls.each j hj) k hk).2); have HF6 := hide (P11.out.lt); have PP := hide (P11.out.mono (Nat.le_trans HWr.out (Nat.le_of_lt H56.out))); have QQ := hide (Q11.out.mono (Nat.le_trans HWr.out X7.out.size)); obtain ⟨a6, d6, e6, _, _⟩ := P11.out.shape; subst e6; obtain ⟨a8, d8, e8, _, _⟩ := Q11.out.shape; subst e8; have S12 := (S11.congr (AA' := fun j => if j = i then A8 else AA j) (fun j hj => if_neg (by have := HDL.out; omega)) (fun j hj => if_neg (by have := HEL.out; omega))).next HW1.out (al (Below.refl _ w11) (.cells #[.slice a6 A8.length d6] 22)); have P12 := hide (PP.out.below (al (Below.refl _ w11) (.cells #[.slice a6 A8.length d6] 22))); have Q12 := hide (QQ.out.below (al (Below.refl _ w11) (.cells #[.slice a6 A8.length d6] 22))); have HN12 := hide (one_cell 22 w11 (.slice a6 A8.length d6)); clear x11 c10 S1 S11)
        | (at_builtin; refine wpList_append_view rfl (.tmp 114) (.tmp 116) 25 rfl W1.heap.size 22 i22 (.slice none 0 0) 1 24 Try.underlying25 hj hy0 hy1 hy2 rfl (by decide) _ D.length (D.map LD.v) rfl S12.ls.row ⟨w11.heap.size, 0, none⟩ 1 1 [.slice a6 A8.length d6] rfl rfl HN12.out (by simp [Value.oneCell']) (by decide) (by have := HDL.out; unfold maxLen; omega) (by have := HDL.out; omega) S12.below.size ?_; intro v13 w13 h1 h2; have S13 := S12.pushO HW1.out [⟨.slice a6 A8.length d6, A8.length⟩] (one_is (AA := fun j => if j = i then A8 else AA j) (if_pos rfl) HDL.out P12.out) (List.pairwise_singleton ..) (fun d hd v hv k h3 h4 => by rw [List.mem_singleton.1 hv] at h4; have h5 := HFR.out d hd k h3; have h6 := (HF6.out k h4).1; have h7 := H56.out; omega) h1 h2; have Q13 := hide (pushed h2 S12.ls.row Q12.out); have S14 := S13.next HW1.out (al (Below.refl _ w13) (.cells #[.slice a8 A8.length d8] 22)); have Q14 := hide (Q13.out.below (al (Below.refl _ w13) (.cells #[.slice a8 A8.length d8] 22))); have HN14 := hide (one_cell 22 w13 (.slice a8 A8.length d8)); clear h1 h2 S12 S13)
        | (at_builtin; refine wpList_append_view rfl (.tmp 118) (.tmp 120) 25 rfl W1.heap.size 22 i22 (.slice none 0 0) 1 24 Try.underlying25 hj hy0 hy1 hy2 rfl (by decide) _ E.length (E.map LD.v) rfl S14.row ⟨w13.heap.size, 0, none⟩ 1 1 [.slice a8 A8.length d8] rfl rfl HN14.out (by simp [Value.oneCell']) (by decide) (by have := HEL.out; unfold maxLen; omega) (by have := HEL.out; omega) S14.below.size ?_; intro v15 w15 h1 h2; have S15 := hide (S14.pushE HW1.out [⟨.slice a8 A8.length d8, A8.length⟩] (one_is (AA := fun j => if j = i then A8 else AA j) (if_pos rfl) HEL.out Q14.out) h1 h2); clear h1 h2 S14))
      go_roundw
      case rel => exact ⟨i + 1, by omega, by go_num, _, _, _, by rw [List.length_append, HDL.out]; rfl, by rw [List.length_append, HEL.out]; rfl, upd_le HAA.out (by omega), S15.out⟩
      case measure => simp [RowKit.intOf]; omega
    · have hlt' : ¬ (i : Int) < 4 := by omega
      have h4 : i = 4 := by omega
      have HD4 : Hid (D.length = 4) := hDl.trans h4
      have HE4 : Hid (E.length = D.length) := hEl.trans hDl.symm
      obtain ⟨ao, co, eo, hpo⟩ := own_shape S1.ls.row
      obtain ⟨ae, ce, ee, hpe⟩ := own_shape S1.row
      rw [HE4.out] at ee
      subst eo ee
      obtain ⟨lo, rfl⟩ := hpo (by have := HD4.out; omega)
      obtain ⟨le, rfl⟩ := hpe (by have := HD4.out; have := HE4.out; omega)
      have hap := S1.done HW1.out HE4.out (by have := HD4.out; omega) (fun j => Nat.le_trans (HAA.out j) (by decide))
      clear h4 hDl hEl hpo hpe S1
      go_wp2_with (go_at_call 20; refine hap.mono ?_; rintro e w9 ⟨rfl, x9⟩; have X9 := hide x9; clear x9)
      go_ret
      exact ⟨rfl, HX.out.trans (X9.out.mono HX.out.size)⟩
end Go.Proofs.Ytljagefcgijmlaa
