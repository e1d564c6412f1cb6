/-
  The code's narrowed by its contract. Condition: the automaton may be, and has at most 256 states.
-/
import Derived.Test.YtdgoilkgplnhfaaGreatC12
set_option maxRecDepth 100000
set_option maxHeartbeats 16000000
namespace Go.Proofs.YtdgoilkgplnhfaaGreat
open Go.RowKit Go.Lib Go.Maps
structure NwS (NX : List Nat) (W base : Nat) (w0 : World) (uv fv vv : Value) (num fst of : List Nat) (xv : Value) (X : List Nat) (i j : Nat) (w : World) : Prop where
 rws : Rws w base [(uv, num), (fv, fst), (vv, of), (xv, X)]
 len : X.length = i * fst.length + j
 jl : j ≤ fst.length
 val : ∀ q, q < X.length → gN X q = gN NX (q / fst.length * W + gN fst (q % fst.length))
 bel : Below base w0 w
section
variable {NX : List Nat} {W base : Nat} {w0 w w' : World} {uv fv vv : Value} {num fst of : List Nat} {xv : Value} {X : List Nat} {i j : Nat}
theorem NwS.below (h : NwS NX W base w0 uv fv vv num fst of xv X i j w) (hb : base ≤ w0.heap.size) (x : Below w.heap.size w w') : NwS NX W base w0 uv fv vv num fst of xv X i j w' :=
 ⟨h.rws.below x, h.len, h.jl, h.val, h.bel.trans (x.mono (Nat.le_trans hb h.bel.size))⟩
theorem NwS.put (h : NwS NX W base w0 uv fv vv num fst of xv X i j w) (hb : base ≤ w0.heap.size) (hj : j < fst.length) {v : Nat} (hv : v = gN NX (i * W + gN fst j)) {w5 : World} (x5 : Below w.heap.size w w5) {xv' : Value} (h1 : w'.ownsRow base 3 1 xv' (X.length + 1) (nCells X ++ [.int .i64 (v : Int)])) (h2 : AppAt w5 w' xv xv') :
 NwS NX W base w0 uv fv vv num fst of xv' (X ++ [v]) i (j + 1) w' := by
 have h5 := h.below hb x5
 have r := h5.rws.app (i := 3) (by simp) (L := X) h1 h2
 have ox : w5.ownsRow base 3 1 xv X.length (nCells X) := h5.rws.own 3 (by simp)
 have hl : (X ++ [v]).length = X.length + 1 := by simp
 have hd := div_at (i := i) hj
 rw [← h.len] at hd
 refine ⟨r, by rw [hl, h.len]; omega, hj, fun q hq => ?_, ?_⟩
 · by_cases h2 : q < X.length
   · rw [gN_left h2]; exact h.val q h2
   · obtain rfl : q = X.length := by omega
     rw [gN_last, hd.1, hd.2]; exact hv
 · obtain ⟨F, k6, hF⟩ : ∃ F : Nat → Prop, Kept F w5 w' ∧ (∀ b, F b → xv.ownBlock = some b) := by
    rcases h2 with ⟨q, a, b, c⟩ | ⟨a, b⟩
    · exact ⟨fun b => some q = some b, kept_of_grown c, fun b hb => a.trans hb⟩
    · exact ⟨fun _ => False, Kept.of_below (below_of_grown a), fun b hb => hb.elim⟩
   exact h5.bel.trans (k6.below (Nat.le_trans hb h5.bel.size) (fun b hf => (World.ownsRow.lt ox b (hF b hf)).1))
end
structure NwD (NX : List Nat) (bs : By) (n W base : Nat) (xv : Value) (num fst of X : List Nat) (w : World) : Prop where
 own : OwnN w base xv X
 nf : NumF (fun c => ldB NX W c n) W (gN num) (gN fst) fst.length
 ofl : of.length = 256
 ofv : ∀ b, b < 256 → gN of b = gN num (bs.getD b 0).toNat
 len : X.length = n * fst.length
 val : ∀ q, q < X.length → gN X q = gN NX (q / fst.length * W + gN fst (q % fst.length))
theorem narrowed_any (bs : By) (na oa : Option Addr) (nc oc W : Nat) (NX OU : List Nat) (w : World) (hbl : bs.length = 256) (hn0 : 0 < OU.length) (hn1 : OU.length ≤ 256) (hW : NX.length = OU.length * W) (hW0 : 0 < W) (hW1 : W ≤ 256) (hbw : ∀ b, b < 256 → (bs.getD b 0).toNat < W) (hnl : ∀ t, t < NX.length → gN NX t < OU.length) (hnx : NAt w na NX) :
 Calls Tryz.prog 79 #[auV bs na NX.length nc oa OU.length oc] w fun e w' => (∃ of xa xn xc, e = .returned (auV (btOf of) xa xn xc oa OU.length oc) ∧ ∃ num fst X, NwD NX bs OU.length W w.heap.size (.slice xa xn xc) num fst of X w') ∧ Below w.heap.size w w' := by
 obtain ⟨i3, hi3, hz30, hz31, hz32⟩ := info_parts Tryz.info3n
 have hmf : ∀ (fn : Fn) (first cap : Array Value) (w : World), (Instr.makeFunc fn first cap).run Tryz.prog w = .ok (.func fn first cap) w := fun _ _ _ _ => rfl
 have hxl : NX.length ≤ 65536 := by have := Nat.mul_le_mul hn1 hW1; omega
 have hdiv : NX.length / OU.length = W := by rw [hW]; exact Nat.mul_div_cancel_left W hn0
 obtain ⟨w2, hw2⟩ : ∃ w2, w2 = (w.alloc (.cells #[.string ⟨bs.toArray⟩, .slice na NX.length nc, .slice oa OU.length oc] 24)).alloc (.cells #[.string ⟨#[]⟩, .slice none 0 0, .slice none 0 0] 24) := ⟨_, rfl⟩
 obtain ⟨X2, B1, B2, hs2⟩ : Below w.heap.size w w2 ∧ w2.heap[w.heap.size]? = some (.cells #[.string ⟨bs.toArray⟩, .slice na NX.length nc, .slice oa OU.length oc] 24 (0, 0)) ∧ w2.heap[w.heap.size + 1]? = some (.cells #[.string ⟨#[]⟩, .slice none 0 0, .slice none 0 0] 24 (0, 0)) ∧ w2.heap.size = w.heap.size + 2 := by
  have B1 := heap_alloc_new w (.cells #[.string ⟨bs.toArray⟩, .slice na NX.length nc, .slice oa OU.length oc] 24)
  have s1 : (w.alloc (.cells #[.string ⟨bs.toArray⟩, .slice na NX.length nc, .slice oa OU.length oc] 24)).heap.size = w.heap.size + 1 := by simp
  have hb1 : Below w.heap.size w (w.alloc (.cells #[.string ⟨bs.toArray⟩, .slice na NX.length nc, .slice oa OU.length oc] 24)) := al (Below.refl _ _) _
  rw [hw2]
  generalize w.alloc (.cells #[.string ⟨bs.toArray⟩, .slice na NX.length nc, .slice oa OU.length oc] 24) = wa at *
  have B2 := heap_alloc_new wa (.cells #[.string ⟨#[]⟩, .slice none 0 0, .slice none 0 0] 24)
  have Y2 : Below wa.heap.size wa (wa.alloc (.cells #[.string ⟨#[]⟩, .slice none 0 0, .slice none 0 0] 24)) := al (Below.refl _ _) _
  rw [s1] at B2
  exact ⟨bt hb1 Y2 (Nat.le_refl _), (Y2.block _ (lt_of_block B1)).trans B1, B2, by simp [s1]⟩
 have HC : Hid (∀ V, Below w2.heap.size w2 V → V.heap[w.heap.size]? = some (.cells #[.string ⟨bs.toArray⟩, .slice na NX.length nc, .slice oa OU.length oc] 24 (0, 0)) ∧ V.cell? ⟨w.heap.size, 0, none⟩ = some (.string ⟨bs.toArray⟩) ∧ V.cell? ⟨w.heap.size, 1, none⟩ = some (.slice na NX.length nc) ∧ V.cell? ⟨w.heap.size, 2, none⟩ = some (.slice oa OU.length oc) ∧ NAt V na NX) := fun V x => by
  have Bv := (x.block _ (lt_of_block B1)).trans B1
  exact ⟨Bv, by rw [cell_of_row _ _ _ _ _ _ Bv]; rfl, by rw [cell_of_row _ _ _ _ _ _ Bv]; rfl, by rw [cell_of_row _ _ _ _ _ _ Bv]; rfl, hnx.below (bt X2 x (Nat.le_refl _))⟩
 have HX2 := hide X2
 have HB2 := hide B2
 have HS2 := hide hs2
 have HWL := hide hW
 have HNL := hide hnl
 have HBW := hide hbw
 have HBL := hide hbl
 clear X2 B1 B2 hs2 hW hnl hbw hnx
 obtain ⟨_, c0, c1, c2, _⟩ := HC.out w2 (Below.refl _ _)
 have HWD := hide (width_any bs na oa NX.length nc OU.length oc w2 (by omega) hn0)
 rw [hdiv] at HWD
 clear hdiv
 unfold auV at HWD ⊢
 go_enter Tryz.func79, Tryz.ntmps79
 go_upto_region 1 with fail
 rw [← hw2]
 clear hw2
 go_wp2_with (fail)
 refine HWD.out.mono ?_
 rintro e w3 ⟨rfl, x3⟩
 have y4 : Below w3.heap.size w3 (w3.alloc (.cells #[.int .i64 (W : Int)] 3)) := al (Below.refl _ _) _
 have B4 := heap_alloc_new w3 (.cells #[.int .i64 (W : Int)] 3)
 have X4 := hide (bt x3 y4 (Nat.le_refl _))
 have hwbl : w3.heap.size < (w3.alloc (.cells #[.int .i64 (W : Int)] 3)).heap.size := by simp
 have hge3 := x3.size
 clear HWD x3 y4 c0 c1 c2
 go_upto_region 2 with fail
 generalize w3.alloc (.cells #[.int .i64 (W : Int)] 3) = w4 at *
 generalize w3.heap.size = wb at *
 have cw : w4.cell? ⟨wb, 0, none⟩ = some (.int .i64 (W : Int)) := by rw [cell_of_row _ _ _ _ _ _ B4]; rfl
 have HCW : Hid (∀ V, Below w4.heap.size w4 V → V.cell? ⟨wb, 0, none⟩ = some (.int .i64 (W : Int))) := fun V x => (x.cell (p := ⟨wb, 0, none⟩) hwbl).trans cw
 have hkk : ∀ c, ∃ l, keyOf Tryz.prog 169 (.agg (mkB (ldB NX W c OU.length))) = some l := fun c => keyOf_leads (ldB NX W c OU.length) (ldB_len _ _ _ _) (fun x hx => by
  obtain ⟨k, hk, rfl⟩ := List.mem_map.1 hx
  by_cases e : k < OU.length
  · rw [if_pos e]
    by_cases e2 : k * W + c < NX.length
    · have := HNL.out _ e2; omega
    · simp [gN, List.getD_eq_getElem?_getD, List.getElem?_eq_none (Nat.le_of_not_lt e2)]
  · rw [if_neg e]; decide)
 obtain ⟨lit, hlit⟩ : ∃ lit : Nat → Lit, ∀ c, keyOf Tryz.prog 169 (.agg (mkB (ldB NX W c OU.length))) = some (lit c) := ⟨fun c => (hkk c).choose, fun c => (hkk c).choose_spec⟩
 have HLI : Hid (∀ c d, lit c = lit d ↔ ldB NX W c OU.length = ldB NX W d OU.length) := fun c d => by
  refine ⟨fun e => ?_, fun e => ?_⟩
  · have h1 := hlit c
    rw [e] at h1
    have := keyed169.inj h1 (hlit d)
    injection this with this
    unfold mkB at this
    have h2 : (ldB NX W c OU.length).map (fun (b : Nat) => Value.int .u8 (b : Int)) = (ldB NX W d OU.length).map (fun (b : Nat) => Value.int .u8 (b : Int)) := by
     have h3 := congrArg Array.toList this
     simpa using h3
    exact List.map_inj_right (fun a b h4 => by injection h4 with _ h4; exact Int.ofNat.inj h4) |>.1 h2
  · have h1 := hlit c
    rw [e, hlit d] at h1
    exact (Option.some.inj h1).symm
 have HN := hide (numL_any W (.pointer (some ⟨w.heap.size, 0, none⟩)) (.pointer (some ⟨wb, 0, none⟩)) (fun c => mkB (ldB NX W c OU.length)) lit w4 (by omega) (fun i _ => hlit i) (fun i _ => mkB_size _ _ _ _) (fun i _ => mkB_all _) (fun i _ => keyed169.key (hlit i)) (fun i hi V x => by
  obtain ⟨Bv, _, _, _, kn⟩ := HC.out V (bt X4.out x (Nat.le_refl _))
  exact narrowed1_any bs na oa nc oc OU.length i W w.heap.size wb NX V hn1 (by omega) (fun s hs => by have := at_lt hs hi; rw [HWL.out]; exact this) (fun t ht => by have := HNL.out t ht; omega) Bv (HCW.out V x) (Nat.lt_of_lt_of_le hwbl x.size) kn))
 clear hkk hlit
 go_wp2_with (fail)
 refine HN.out.mono ?_
 rintro e w5 ⟨⟨uv, fv, rfl, num, fst, hd⟩, x5⟩
 clear HN cw B4
 have hnf : NumF (fun c => ldB NX W c OU.length) W (gN num) (gN fst) fst.length := ⟨hd.nf.numlt, fun i hi' => (HLI.out _ _).1 (hd.nf.lk i hi'), hd.nf.fstlt, hd.nf.numfst, fun k hk i hi' e => hd.nf.first k hk i hi' ((HLI.out _ _).2 e), hd.nf.inc⟩
 have HNF := hide hnf
 have hfl : fst.length ≤ W := pigeon W fst.length (gN fst) hnf.fstlt (fun i h1 j h2 e => by rw [← hnf.numfst i h1, ← hnf.numfst j h2, e])
 have HNM : Hid (num.length = W) := hd.len
 have R5 : Hid (Rws w5 w4.heap.size [(uv, num), (fv, fst)]) := (Rws.nil w5 w4.heap.size).two hd.o1 hd.o2 hd.ap
 have X5 := hide x5
 obtain ⟨fa, fc, hfv, _⟩ := own_shape (show w5.ownsRow w4.heap.size 3 1 fv fst.length (nCells fst) from R5.out.own 1 (by simp))
 subst hfv
 obtain ⟨ua, uc, huv, _⟩ := own_shape (show w5.ownsRow w4.heap.size 3 1 uv num.length (nCells num) from R5.out.own 0 (by simp))
 subst huv
 have HS0 : Hid (∀ (w6 : World), w6.ownsRow w4.heap.size 3 1 (.slice (some ⟨w5.heap.size, 0, none⟩) 256 256) 256 (madeCells (Value.int .i64 0).cells (256 * 1)).toList → w5.grownBy w6 none → Rws w6 w4.heap.size [(.slice ua num.length uc, num), (.slice fa fst.length fc, fst), (.slice (some ⟨w5.heap.size, 0, none⟩) 256 256, List.replicate 256 0)] ∧ Below w4.heap.size w4 w6) := fun w6 p1 p2 => by
  have x6 := below_of_grown p2
  have o6 : OwnN w6 w4.heap.size (.slice (some ⟨w5.heap.size, 0, none⟩) 256 256) (List.replicate 256 0) := by unfold OwnN; rw [made_nums] at p1; simpa using p1
  exact ⟨R5.out.cons x6 o6 (fun b hb => by have e : w5.heap.size = b := Option.some.inj hb; omega), bt X5.out x6 (Nat.le_refl _)⟩
 clear hd x5 hnf R5
 go_wp2_with (at_make; refine wpList_make_full _ rfl (.const (.int .i64 256)) (.const (.int .i64 256)) 22 rfl w4.heap.size 3 i3 (.int .i64 0) 1 Tryz.underlying22 hi3 hz30 hz31 .i64 .i64 _ _ 256 rfl rfl rfl rfl (by rw [hz32]; decide) (by unfold maxLen; decide) X5.out.size ?_; intro w6 p1 p2; have S0 := hide (HS0.out w6 p1 p2); clear p1 p2)
 clear HS0
 generalize w5.heap.size = vg at *
 go_loopg [23] 257 (fun g x wr => ∃ (b : Nat) (of : List Nat), x = .int .i64 (b : Nat) ∧ Hid (Rws wr w4.heap.size [(.slice ua num.length uc, num), (.slice fa fst.length fc, fst), (.slice (some ⟨vg, 0, none⟩) 256 256, of)] ∧ Below w4.heap.size w4 wr) ∧ Hid (of.length = 256 ∧ ∀ k, k < b → gN of k = gN num (bs.getD k 0).toNat) ∧ b ≤ 256 ∧ 256 - b < g)
 case atStart => exact ⟨0, _, rfl, S0, ⟨by simp, fun k hk => by omega⟩, by omega, by omega⟩
 case round =>
  obtain ⟨b, of, rfl, S, HOF, hbl2, hg⟩ := hrel
  have HG := hide hg
  clear hg S0
  obtain ⟨_, c0, c1, c2, kn⟩ := HC.out wr (bt X4.out S.out.2 (Nat.le_refl _))
  by_cases hb : b < 256
  · have hb' : (b : Int) < 256 := by omega
    have hbb : b < bs.length := by rw [HBL.out]; exact hb
    have hyl := HBW.out b hb
    have hgd : bs.getD b 0 = bs[b] := by simp [List.getD_eq_getElem?_getD, hbb]
    have HYD : Hid ((bs.getD b 0).toNat = (bs[b]).toNat) := by unfold Hid; rw [hgd]
    rw [hgd] at hyl
    obtain ⟨y, hy⟩ : ∃ y, bs[b] = y := ⟨_, rfl⟩
    have hgy : ∀ hk, (⟨bs.toArray⟩ : ByteArray)[b]'hk = y := fun _ => hy
    rw [hy] at hyl HYD
    have hlb : (b : Int) < (bs.length : Int) := by omega
    have hyn : y.toNat < num.length := by have := HNM.out; omega
    obtain ⟨ug, hug, cu⟩ := OwnN.gcell (S.out.1.own 0 (by simp)) hyn
    subst hug
    have hyn' : (y.toNat : Int) < (num.length : Int) := by omega
    obtain ⟨x1, x2⟩ := OwnN.slot (S.out.1.own 2 (by simp)) (i := b) (by show b < of.length; have := HOF.out.1; omega)
    obtain ⟨v1, x1⟩ : ∃ v, wr.cell? ⟨vg, b, none⟩ = some v := ⟨_, x1⟩
    have r1 := S.out.1.store (i := 2) (by simp) rfl b (gN num y.toNat)
    have hvg : w4.heap.size ≤ vg := (World.ownsRow.lt (show wr.ownsRow w4.heap.size 3 1 (.slice (some ⟨vg, 0, none⟩) 256 256) of.length (nCells of) from S.out.1.own 2 (by simp)) vg rfl).1
    have S1 : Hid (_ ∧ _) := ⟨r1, S.out.2.setCell (p := ⟨vg, b, none⟩) hvg (.int .i64 ((gN num y.toNat : Nat) : Int))⟩
    have HOF1 : Hid ((of.set b (gN num y.toNat)).length = 256 ∧ ∀ k, k < b + 1 → gN (of.set b (gN num y.toNat)) k = gN num (bs.getD k 0).toNat) := ⟨by rw [List.length_set]; exact HOF.out.1, fun k hk => by
     rw [gN_set of (by have := HOF.out.1; omega)]
     by_cases e : k = b
     · rw [if_pos e, e, HYD.out]
     · rw [if_neg e]; exact HOF.out.2 k (by omega)⟩
    clear hy hgd r1 kn
    generalize gN num y.toNat = z at *
    go_wp2
    go_roundg (256 - (b + 1) + 1)
    case measure => have := HG.out; omega
    case rel => exact ⟨b + 1, _, by first | rfl | go_num | (congr 1; omega), S1, HOF1, by omega, by omega⟩
  · as_aux_lemma =>
     have hb' : ¬ (b : Int) < 256 := by omega
     obtain rfl : b = 256 := by omega
     have hmm : fst.length * OU.length ≤ 65536 := by have := Nat.mul_le_mul (show fst.length ≤ 256 by omega) hn1; omega
     have hmul : IntKind.i64.wrap ((fst.length : Int) * (OU.length : Int)) = ((fst.length * OU.length : Nat) : Int) := by rw [show (fst.length : Int) * (OU.length : Int) = ((fst.length * OU.length : Nat) : Int) by simp]; exact w64_n _ (by omega)
     have HS0 : Hid (∀ (w7 : World) (c7 : Nat), w7.ownsRow w4.heap.size 3 1 (.slice (some ⟨wr.heap.size, 0, none⟩) 0 c7) 0 [] → wr.grownBy w7 none → NwS NX W w4.heap.size w4 (.slice ua num.length uc) (.slice fa fst.length fc) (.slice (some ⟨vg, 0, none⟩) 256 256) num fst of (.slice (some ⟨wr.heap.size, 0, none⟩) 0 c7) [] 0 0 w7) := fun w7 c7 p1 p2 => by
      have x7 := below_of_grown p2
      have o7 : OwnN w7 w4.heap.size (.slice (some ⟨wr.heap.size, 0, none⟩) 0 c7) [] := p1
      exact ⟨S.out.1.cons x7 o7 (fun b hb => by have e : wr.heap.size = b := Option.some.inj hb; omega), by simp, Nat.zero_le _, fun q hq => by simp at hq, bt S.out.2 x7 (Nat.le_refl _)⟩
     have hsz4 := S.out.2.size
     clear S kn
     generalize hFW : fst.length * OU.length = FW at *
     go_upto_region 10 with (at_make; refine wpList_make_own _ rfl (.const (.int .i64 0)) (.tmp 42) 22 rfl w4.heap.size 3 i3 (.int .i64 0) 1 Tryz.underlying22 hi3 hz30 hz31 .i64 .i64 _ FW rfl rfl rfl (by rw [hz32]; omega) (by unfold maxLen; omega) hsz4 ?_; intro w7 p1 p2; have S0 := hide (HS0.out w7 _ p1 p2); clear p1 p2)
     clear HS0 hFW hsz4 c0 c1 c2
     obtain ⟨_, c0, c1, c2, kn⟩ := HC.out w7 (bt X4.out S0.out.bel (Nat.le_refl _))
     clear kn
     go_wp2
     go_loopg [8, 47] (OU.length + 1) (fun g xv x wr => ∃ (i : Nat) (X : List Nat), x = .int .i64 (i : Nat) ∧ Hid (NwS NX W w4.heap.size w4 (.slice ua num.length uc) (.slice fa fst.length fc) (.slice (some ⟨vg, 0, none⟩) 256 256) num fst of xv X i 0 wr) ∧ i ≤ OU.length ∧ OU.length - i < g)
     case atStart => exact ⟨0, [], rfl, S0, by omega, by omega⟩
     case round =>
      obtain ⟨i, X, rfl, S, hil, hg⟩ := hrel
      have HG := hide hg
      clear hg S0 c0 c1 c2
      obtain ⟨Bv, c0, c1, c2, kn⟩ := HC.out wr (bt X4.out S.out.bel (Nat.le_refl _))
      obtain ⟨xa, xc, hxv⟩ := OwnN.shape (S.out.rws.own 3 (by simp))
      simp only [List.getElem_cons_succ, List.getElem_cons_zero] at hxv
      subst hxv
      by_cases hi : i < OU.length
      · as_aux_lemma =>
         have hi' : (i : Int) < (OU.length : Int) := by omega
         clear Bv kn c0 c1 c2
         go_wp2
         go_loopg [8, 52] (fst.length + 1) (fun g xv x wr => ∃ (j : Nat) (X : List Nat), x = .int .i64 (j : Nat) ∧ Hid (NwS NX W w4.heap.size w4 (.slice ua num.length uc) (.slice fa fst.length fc) (.slice (some ⟨vg, 0, none⟩) 256 256) num fst of xv X i j wr) ∧ fst.length - j < g)
         case atStart => exact ⟨0, X, rfl, S, by omega⟩
         case round =>
          obtain ⟨j, X, rfl, S2, hg2⟩ := hrel
          have HG2 := hide hg2
          clear hg2 S
          have S := S2
          clear S2
          obtain ⟨xa, xc, hxv⟩ := OwnN.shape (S.out.rws.own 3 (by simp))
          simp only [List.getElem_cons_succ, List.getElem_cons_zero] at hxv
          subst hxv
          have hjl := S.out.jl
          by_cases hj : j < fst.length
          · have hj' : (j : Int) < (fst.length : Int) := by omega
            obtain ⟨_, c0, c1, c2, kn⟩ := HC.out wr (bt X4.out S.out.bel (Nat.le_refl _))
            have cw := HCW.out wr S.out.bel
            obtain ⟨fg, hfg, cf⟩ := OwnN.gcell (S.out.rws.own 1 (by simp)) hj
            subst hfg
            have hfc := HNF.out.fstlt j hj
            have hq : i * W + gN fst j < NX.length := by have := at_lt hi hfc; rw [HWL.out]; exact this
            obtain ⟨nb, off, rfl, _, cx⟩ := kn.get hq
            rw [← gN_lt hq] at cx
            have hXl : X.length ≤ 131072 := by
             have h4 := S.out.len
             have h5 := Nat.mul_le_mul (show i ≤ 256 by omega) (show fst.length ≤ 256 by omega)
             omega
            have HV : Hid (gN NX (i * W + gN fst j) = gN NX (i * W + gN fst j)) := rfl
            have x5 := NmP.x5 wr (gN NX (i * W + gN fst j))
            have O6 : Hid ((wr.alloc (.cells #[.int .i64 ((gN NX (i * W + gN fst j) : Nat) : Int)] 3)).ownsRow w4.heap.size 3 1 (.slice xa X.length xc) X.length (nCells X)) := own_below (show wr.ownsRow w4.heap.size 3 1 (.slice xa X.length xc) X.length (nCells X) from S.out.rws.own 3 (by simp)) x5
            have HN6 := hide (one_int wr (gN NX (i * W + gN fst j)) 3)
            have HS6 : Hid (w4.heap.size ≤ (wr.alloc (.cells #[.int .i64 ((gN NX (i * W + gN fst j) : Nat) : Int)] 3)).heap.size) := Nat.le_trans S.out.bel.size x5.size
            have HPA := hide (fun (w6 : World) (v6 : Value) g1 g2 => S.out.put (w' := w6) (xv' := v6) (Nat.le_refl _) hj HV.out x5 g1 g2)
            have hiW : i * W ≤ 65536 := by have := Nat.mul_le_mul (show i ≤ 256 by omega) hW1; omega
            have f1 : IntKind.i64.wrap ((i : Int) * (W : Int)) = ((i * W : Nat) : Int) := by rw [show (i : Int) * (W : Int) = ((i * W : Nat) : Int) by simp]; exact w64_n _ (by omega)
            clear x5 kn HV
            generalize gN NX (i * W + gN fst j) = v at *
            generalize gN fst j = cc at *
            generalize i * W = m at *
            have f3 : IntKind.i64.wrap ((m : Int) + (cc : Int)) = ((m + cc : Nat) : Int) := by rw [show (m : Int) + (cc : Int) = ((m + cc : Nat) : Int) by simp]; exact w64_n _ (by omega)
            have hlt : (m : Int) + (cc : Int) < (NX.length : Int) := by omega
            have hlt2 : ((m : Int) + (cc : Int)).toNat = m + cc := by omega
            have hlz : (0 : Int) ≤ (m : Int) + (cc : Int) := by omega
            go_wp2_with (at_builtin; refine wpList_append_view rfl (.tmp 56) (.tmp 66) 22 rfl w4.heap.size 3 i3 (.int .i64 0) 1 8 Tryz.underlying22 hi3 hz30 hz31 hz32 rfl (by decide) _ X.length (nCells X) rfl O6.out ⟨wr.heap.size, 0, none⟩ 1 1 [.int .i64 (v : Nat)] rfl rfl HN6.out (by simp [Value.oneCell']) (by decide) (by unfold maxLen; omega) (by omega) HS6.out ?_; intro v6 w6 g1 g2; have S6 := hide (HPA.out w6 v6 g1 g2); clear g1 g2)
            go_roundg (fst.length - (j + 1) + 1)
            case measure => have := HG2.out; omega
            case rel => exact ⟨j + 1, X ++ [v], by first | rfl | go_num | (congr 1; omega), S6, by omega⟩
          · have hj' : ¬ (j : Int) < (fst.length : Int) := by omega
            obtain rfl : j = fst.length := by omega
            have S7 : Hid (NwS NX W w4.heap.size w4 (.slice ua num.length uc) (.slice fa fst.length fc) (.slice (some ⟨vg, 0, none⟩) 256 256) num fst of (.slice xa X.length xc) X (i + 1) 0 wr) := ⟨S.out.rws, by rw [S.out.len, Nat.succ_mul]; omega, Nat.zero_le _, S.out.val, S.out.bel⟩
            have hiw : IntKind.i64.wrap ((i : Int) + 1) = ((i + 1 : Nat) : Int) := by simp [IntKind.wrap, IntKind.bits, IntKind.signed]; omega
            go_wp2
            go_roundg (OU.length - (i + 1) + 1)
            case measure => have := HG.out; omega
            case rel => exact ⟨i + 1, X, by first | rfl | go_num | (congr 1; omega), S7, by omega, by omega⟩
      · as_aux_lemma =>
         have hi' : ¬ (i : Int) < (OU.length : Int) := by omega
         obtain rfl : i = OU.length := by omega
         have hofl := HOF.out.1
         have hat : NAt wr.drew (some ⟨vg, 0, none⟩) of := by
          obtain ⟨ao, cap, e, h9⟩ := (S.out.rws.own 2 (by simp)).at
          injection e with e _ _
          rw [← e] at h9
          exact h9
         have HBC := hide (byteColumns_any (some ⟨vg, 0, none⟩) 256 of wr.drew (by rw [hofl]; decide) (fun x hx => by
          obtain ⟨k, hk, rfl⟩ := List.mem_iff_getElem.1 hx
          have h1 := HOF.out.2 k (by omega)
          rw [gN_lt hk] at h1
          have h2 := HNF.out.numlt _ (HBW.out k (by omega))
          omega) hat)
         rw [hofl] at HBC
         have lw : w.heap.size < wr.heap.size := lt_of_block Bv
         have hlt2 := lt_of_block HB2.out
         have hs2 := HS2.out
         have hx4 := X4.out.size
         have HFN := hide (fun (w9 : World) (x9 : Below wr.drew.heap.size wr.drew w9) =>
          have y9 : Below wr.heap.size wr w9 := (Below.refl _ wr).drew.trans x9
          st3 ((bt (bt X4.out S.out.bel (Nat.le_refl _)) y9 (Nat.le_refl _)).block _ hlt2 |>.trans HB2.out) (.string ⟨(btOf of).toArray⟩) (.slice xa X.length xc) (.slice oa OU.length oc))
         have HEND := hide (fun (w9 : World) (x9 : Below wr.drew.heap.size wr.drew w9) (wf : World) (kf : Kept (fun i => i = w.heap.size + 1) w9 wf) => (show NwD NX bs OU.length W w.heap.size (.slice xa X.length xc) num fst of X wf ∧ Below w.heap.size w wf from by
          have y9 : Below wr.heap.size wr w9 := (Below.refl _ wr).drew.trans x9
          have S9 := S.out.below (Nat.le_refl _) y9
          have ox := S9.rws.own 3 (by simp)
          have o9 : OwnN wf w4.heap.size (.slice xa X.length xc) X := own_kept ox kf (fun b hb e => by
           have := (World.ownsRow.lt (show w9.ownsRow w4.heap.size 3 1 (.slice xa X.length xc) X.length (nCells X) from ox) b hb).1
           omega)
          refine ⟨⟨o9.mono' (by omega), HNF.out, hofl, HOF.out.2, by have := S.out.len; omega, S.out.val⟩, ?_⟩
          have b9 := bt HX2.out (bt X4.out S9.bel (Nat.le_refl _)) (Nat.le_refl _)
          exact b9.trans (kf.below (by have := S9.bel.size; omega) (fun b hb => by omega))))
         clear hat kn Bv c0 c1 S hofl
         go_wp2
         go_region_held3 (fun w' => w'.cell? ⟨w.heap.size, 2, none⟩ = some (.slice oa OU.length oc)) (first | assumption | exact c2 | (simp [go_sem, *]; done))
          ((go_at_call 48; refine HBC.out.mono ?_; rintro e w9 ⟨rfl, x9⟩; have y2 := (x9.cell (p := ⟨w.heap.size, 2, none⟩) lw).trans c2; obtain ⟨g0, f0, g1, f1, g2, f2, B6, k6⟩ := HFN.out w9 x9; have d0 := cell_of_row _ _ 0 _ _ _ B6; have d1 := cell_of_row _ _ 1 _ _ _ B6; have d2 := cell_of_row _ _ 2 _ _ _ B6; have HE := hide (HEND.out w9 x9 _ k6); clear x9 B6 k6))
         go_wp2
         refine bodyPost_ret (by simp [results, Tryz.results79, go_sem, d0, d1, d2]; try rfl) rfl ?_
         exact ⟨⟨of, _, _, _, rfl, num, fst, X, HE.out.1⟩, HE.out.2⟩
end Go.Proofs.YtdgoilkgplnhfaaGreat
namespace Go.Proofs.YtdgoilkgplnhfaaGreat
def cnt (K : List Nat) (t i : Nat) : Nat := (K.take t).count i
def cum (K : List Nat) (i : Nat) : Nat := K.countP (fun x => decide (x < i))
theorem cnt_zero (K : List Nat) (i : Nat) : cnt K 0 i = 0 := by simp [cnt]
theorem cnt_succ {K : List Nat} {t : Nat} (h : t < K.length) (i : Nat) : cnt K (t + 1) i = cnt K t i + if gN K t = i then 1 else 0 := by
 unfold cnt
 rw [List.take_succ_eq_append_getElem h, List.count_append, gN_lt h, List.count_singleton]
 simp [beq_iff_eq]
theorem cnt_mono {K : List Nat} (i : Nat) : ∀ {t u : Nat}, t ≤ u → u ≤ K.length → cnt K t i ≤ cnt K u i := fun {t u} h hu => by
 induction u with
 | zero => have : t = 0 := by omega
           subst this; exact Nat.le_refl _
 | succ u ih =>
   by_cases e : t = u + 1
   · subst e; exact Nat.le_refl _
   · rw [cnt_succ (by omega)]
     have := ih (by omega) (by omega)
     omega
theorem cum_zero (K : List Nat) : cum K 0 = 0 := by simp [cum]
theorem cum_succ (K : List Nat) (i : Nat) : cum K (i + 1) = cum K i + cnt K K.length i := by
 unfold cum cnt
 rw [List.take_length]
 induction K with
 | nil => rfl
 | cons x K ih =>
   rw [List.countP_cons, List.countP_cons, List.count_cons, ih]
   have e1 : (x == i) = decide (x = i) := by by_cases e : x = i <;> simp [e]
   rw [e1]
   simp only [decide_eq_true_eq]
   by_cases h1 : x < i
   · rw [if_pos (by omega), if_pos h1, if_neg (by omega)]; omega
   · by_cases h2 : x = i
     · rw [if_pos (by omega), if_neg h1, if_pos h2]; omega
     · rw [if_neg (by omega), if_neg h1, if_neg h2]; omega
theorem cum_mono (K : List Nat) {i j : Nat} (h : i ≤ j) : cum K i ≤ cum K j := by
 induction j with
 | zero => have : i = 0 := by omega
           subst this; exact Nat.le_refl _
 | succ j ih =>
   by_cases e : i = j + 1
   · subst e; exact Nat.le_refl _
   · rw [cum_succ]; have := ih (by omega); omega
theorem cum_le (K : List Nat) (i : Nat) : cum K i ≤ K.length := List.countP_le_length
def pos (K : List Nat) (t : Nat) : Nat := cum K (gN K t + 1) - 1 - cnt K t (gN K t)
theorem pos_at {K : List Nat} {t : Nat} (h : t < K.length) : pos K t + cnt K t (gN K t) + 1 = cum K (gN K t + 1) ∧ cum K (gN K t) ≤ pos K t := by
 have h1 := cnt_succ h (gN K t)
 rw [if_pos rfl] at h1
 have h2 := cnt_mono (K := K) (gN K t) (t := t + 1) (u := K.length) h (Nat.le_refl _)
 have h3 := cum_succ K (gN K t)
 unfold pos
 omega
theorem pos_inj {K : List Nat} {t u : Nat} (ht : t < K.length) (hu : u < K.length) (e : pos K t = pos K u) : t = u := by
 have h1 := pos_at ht
 have h2 := pos_at hu
 have hk : gN K t = gN K u := by
  rcases Nat.lt_trichotomy (gN K t) (gN K u) with h | h | h
  · have := cum_mono K (show gN K t + 1 ≤ gN K u from h); omega
  · exact h
  · have := cum_mono K (show gN K u + 1 ≤ gN K t from h); omega
 rw [hk] at h1
 have hc : cnt K t (gN K u) = cnt K u (gN K u) := by omega
 rcases Nat.lt_trichotomy t u with h | h | h
 · have a1 := cnt_succ ht (gN K u)
   rw [if_pos hk] at a1
   have := cnt_mono (K := K) (gN K u) (t := t + 1) (u := u) h (by omega)
   omega
 · exact h
 · have a1 := cnt_succ hu (gN K u)
   rw [if_pos rfl] at a1
   have := cnt_mono (K := K) (gN K u) (t := u + 1) (u := t) h (by omega)
   omega
theorem cnt_onto {K : List Nat} (i : Nat) : ∀ (t : Nat), t ≤ K.length → ∀ c, c < cnt K t i → ∃ u, u < t ∧ gN K u = i ∧ cnt K u i = c
 | 0, _, c, hc => by rw [cnt_zero] at hc; omega
 | t + 1, ht, c, hc => by
   rw [cnt_succ (by omega)] at hc
   by_cases h : c < cnt K t i
   · obtain ⟨u, h1, h2⟩ := cnt_onto i t (by omega) c h
     exact ⟨u, by omega, h2⟩
   · by_cases e : gN K t = i
     · rw [if_pos e] at hc
       exact ⟨t, by omega, e, by omega⟩
     · rw [if_neg e] at hc; omega
theorem pos_onto {K : List Nat} {i p : Nat} (h1 : cum K i ≤ p) (h2 : p < cum K (i + 1)) : ∃ t, t < K.length ∧ gN K t = i ∧ pos K t = p := by
 have h3 := cum_succ K i
 obtain ⟨t, a, b, c⟩ := cnt_onto (K := K) i K.length (Nat.le_refl _) (cum K (i + 1) - 1 - p) (by omega)
 refine ⟨t, a, b, ?_⟩
 have := pos_at a
 rw [b, c] at this
 omega
def Cn1 (K : List Nat) (Q t : Nat) (S : List Nat) : Prop := S.length = Q + 1 ∧ ∀ i, i ≤ Q → gN S i = cnt K t i
theorem Cn1.zero (K : List Nat) (Q : Nat) : Cn1 K Q 0 (List.replicate (Q + 1) 0) := ⟨by simp, fun i hi => by rw [cnt_zero, gN_lt (by simp; omega)]; simp⟩
theorem Cn1.next {K : List Nat} {Q t : Nat} {S : List Nat} (h : Cn1 K Q t S) (ht : t < K.length) (hk : gN K t ≤ Q) : Cn1 K Q (t + 1) (S.set (gN K t) (gN S (gN K t) + 1)) := by
 refine ⟨by rw [List.length_set]; exact h.1, fun i hi => ?_⟩
 rw [gN_set _ (by rw [h.1]; omega), cnt_succ ht]
 by_cases e : i = gN K t
 · rw [if_pos e, if_pos e.symm, ← e, h.2 i hi]
 · rw [if_neg e, if_neg (fun e2 => e e2.symm), h.2 i hi]; rfl
def Cn2 (K : List Nat) (Q j : Nat) (S : List Nat) : Prop := S.length = Q + 1 ∧ ∀ i, i ≤ Q → gN S i = if i < j then cum K (i + 1) else cnt K K.length i
theorem Cn2.start {K : List Nat} {Q : Nat} {S : List Nat} (h : Cn1 K Q K.length S) : Cn2 K Q 0 S := ⟨h.1, fun i hi => by rw [if_neg (by omega)]; exact h.2 i hi⟩
theorem Cn2.next {K : List Nat} {Q j : Nat} {S : List Nat} (h : Cn2 K Q j S) (hj : j ≤ Q) : cum K j + gN S j = cum K (j + 1) ∧ Cn2 K Q (j + 1) (S.set j (cum K (j + 1))) := by
 have h1 := h.2 j hj
 rw [if_neg (by omega)] at h1
 refine ⟨by rw [h1, cum_succ], by rw [List.length_set]; exact h.1, fun i hi => ?_⟩
 rw [gN_set _ (by rw [h.1]; omega)]
 by_cases e : i = j
 · rw [if_pos e, if_pos (by omega), e]
 · rw [if_neg e, h.2 i hi]
   by_cases e2 : i < j
   · rw [if_pos e2, if_pos (by omega)]
   · rw [if_neg e2, if_neg (by omega)]
structure Cn3 (K : List Nat) (Q w t : Nat) (S F : List Nat) : Prop where
 sl : S.length = Q + 1
 fl : F.length = K.length
 st : ∀ i, i ≤ Q → gN S i + cnt K t i = cum K (i + 1)
 fr : ∀ u, u < t → gN F (pos K u) = u / w
theorem Cn3.start {K : List Nat} {Q w : Nat} {S F : List Nat} (h : Cn2 K Q (Q + 1) S) (hF : F.length = K.length) : Cn3 K Q w 0 S F :=
 ⟨h.1, hF, fun i hi => by rw [cnt_zero, h.2 i hi, if_pos (by omega)]; rfl, fun u hu => by omega⟩
theorem Cn3.next {K : List Nat} {Q w t : Nat} {S F : List Nat} (h : Cn3 K Q w t S F) (ht : t < K.length) (hk : gN K t < Q) :
 gN S (gN K t) = pos K t + 1 ∧ pos K t < F.length ∧ Cn3 K Q w (t + 1) (S.set (gN K t) (pos K t)) (F.set (pos K t) (t / w)) := by
 have h1 := h.st (gN K t) (by omega)
 have h2 := pos_at ht
 have h3 := cum_le K (gN K t + 1)
 have hp : pos K t < F.length := by rw [h.fl]; omega
 refine ⟨by omega, hp, by rw [List.length_set]; exact h.sl, by rw [List.length_set]; exact h.fl, fun i hi => ?_, fun u hu => ?_⟩
 · rw [gN_set _ (by rw [h.sl]; omega), cnt_succ ht]
   by_cases e : i = gN K t
   · rw [if_pos e, if_pos e.symm, e]; omega
   · rw [if_neg e, if_neg (fun e2 => e e2.symm)]; exact h.st i hi
 · rw [gN_set _ hp]
   by_cases e : u = t
   · rw [e, if_pos rfl]
   · rw [if_neg (fun e2 => e (pos_inj (by omega) ht e2))]
     exact h.fr u (by omega)
structure BkS (n w : Nat) (NX S F : List Nat) : Prop where
 sl : S.length = n * w + 1
 fl : F.length = n * w
 le : ∀ c, c < w → ∀ tgt, tgt < n → gN S (c * n + tgt) ≤ gN S (c * n + tgt + 1) ∧ gN S (c * n + tgt + 1) ≤ n * w
 tgt : ∀ c, c < w → ∀ tgt, tgt < n → ∀ p, gN S (c * n + tgt) ≤ p → p < gN S (c * n + tgt + 1) → gN F p < n ∧ gN NX (gN F p * w + c) = tgt
 on : ∀ c, c < w → ∀ s, s < n → ∃ p, gN S (c * n + gN NX (s * w + c)) ≤ p ∧ p < gN S (c * n + gN NX (s * w + c) + 1) ∧ gN F p = s
 nd : ∀ c, c < w → ∀ tgt, tgt < n → ∀ p q, gN S (c * n + tgt) ≤ p → p < gN S (c * n + tgt + 1) → gN S (c * n + tgt) ≤ q → q < gN S (c * n + tgt + 1) → gN F p = gN F q → p = q
def keys (n w : Nat) (NX : List Nat) : List Nat := (List.range NX.length).map fun t => t % w * n + gN NX t
theorem keys_len (n w : Nat) (NX : List Nat) : (keys n w NX).length = NX.length := by simp [keys]
theorem keys_get (n w : Nat) (NX : List Nat) {t : Nat} (h : t < NX.length) : gN (keys n w NX) t = t % w * n + gN NX t := by
 rw [gN_lt (by rw [keys_len]; exact h)]
 simp [keys]
theorem mulq {n a b x y : Nat} (hx : x < n) (hy : y < n) (e : a * n + x = b * n + y) : a = b ∧ x = y := by
 have hn : 0 < n := by omega
 have h1 : (a * n + x) / n = a := by rw [Nat.mul_comm, Nat.mul_add_div hn, Nat.div_eq_of_lt hx]; rfl
 have h2 : (b * n + y) / n = b := by rw [Nat.mul_comm, Nat.mul_add_div hn, Nat.div_eq_of_lt hy]; rfl
 have : a = b := by rw [← h1, ← h2, e]
 subst this
 exact ⟨rfl, by omega⟩
theorem mul_lt {n w c x : Nat} (hc : c < w) (hx : x < n) : c * n + x < n * w := by
 have := Nat.mul_le_mul_right n (show c + 1 ≤ w from hc)
 rw [Nat.succ_mul, Nat.mul_comm w n] at this
 omega
theorem keys_lt {n w : Nat} {NX : List Nat} (hw : 0 < w) (hnl : ∀ t, t < NX.length → gN NX t < n) {t : Nat} (h : t < NX.length) : gN (keys n w NX) t < n * w := by
 rw [keys_get _ _ _ h]
 exact mul_lt (Nat.mod_lt _ hw) (hnl t h)
theorem Cn3.done {n w : Nat} {NX S F : List Nat} (hw : 0 < w) (hl : NX.length = n * w) (hnl : ∀ t, t < NX.length → gN NX t < n) (h : Cn3 (keys n w NX) (n * w) w NX.length S F) : BkS n w NX S F := by
 have hS : ∀ i, i ≤ n * w → gN S i = cum (keys n w NX) i := fun i hi => by
  have h1 := h.st i hi
  have h2 := cum_succ (keys n w NX) i
  rw [keys_len] at h2
  omega
 have key : ∀ c, c < w → ∀ tgt, tgt < n → ∀ p, gN S (c * n + tgt) ≤ p → p < gN S (c * n + tgt + 1) → ∃ t, t < NX.length ∧ t % w = c ∧ gN NX t = tgt ∧ pos (keys n w NX) t = p ∧ gN F p = t / w := fun c hc tgt ht p h1 h2 => by
  have := mul_lt hc ht
  rw [hS _ (by omega)] at h1 h2
  obtain ⟨t, a, b, e⟩ := pos_onto h1 h2
  rw [keys_len] at a
  rw [keys_get _ _ _ a] at b
  obtain ⟨b1, b2⟩ := mulq (hnl t a) ht b
  exact ⟨t, a, b1, b2, e, by rw [← e]; exact h.fr t a⟩
 refine ⟨h.sl, by rw [h.fl, keys_len, hl], fun c hc tgt ht => ?_, fun c hc tgt ht p h1 h2 => ?_, fun c hc s hs => ?_, fun c hc tgt ht p q h1 h2 h3 h4 e => ?_⟩
 · have := mul_lt hc ht
   rw [hS _ (by omega), hS _ (by omega)]
   have a := cum_le (keys n w NX) (c * n + tgt + 1)
   rw [keys_len, hl] at a
   exact ⟨cum_mono _ (by omega), a⟩
 · obtain ⟨t, a, b, e, _, f⟩ := key c hc tgt ht p h1 h2
   have hd := Nat.div_add_mod t w
   rw [Nat.mul_comm, b] at hd
   refine ⟨?_, by rw [f, hd]; exact e⟩
   rw [f, Nat.div_lt_iff_lt_mul hw, ← hl]
   exact a
 · have hat : s * w + c < NX.length := by
    have := Nat.mul_le_mul_right w (show s + 1 ≤ n from hs)
    rw [Nat.succ_mul] at this
    omega
   have hm : (s * w + c) % w = c := by rw [Nat.mul_comm, Nat.mul_add_mod, Nat.mod_eq_of_lt hc]
   have hd : (s * w + c) / w = s := by rw [Nat.mul_comm, Nat.mul_add_div hw, Nat.div_eq_of_lt hc]; rfl
   have hx := hnl _ hat
   have hq := mul_lt hc hx
   have hp := pos_at (K := keys n w NX) (by rw [keys_len]; exact hat)
   rw [keys_get _ _ _ hat, hm] at hp
   rw [hS _ (by omega), hS _ (by omega)]
   exact ⟨_, hp.2, by omega, by rw [h.fr _ hat, hd]⟩
 · obtain ⟨t, a, b, e1, e2, f⟩ := key c hc tgt ht p h1 h2
   obtain ⟨u, a', b', e1', e2', f'⟩ := key c hc tgt ht q h3 h4
   have h5 := Nat.div_add_mod t w
   have h6 := Nat.div_add_mod u w
   rw [b, ← f, e, f', ← b'] at h5
   rw [← e2, ← e2']
   congr 1
   omega
end Go.Proofs.YtdgoilkgplnhfaaGreat
