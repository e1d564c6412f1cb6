/-
  Join by its contract, of two automata in their one form: the automaton that tells both labels, and the pairs; or that there are more than 256 pairs of states. Condition: both are in their one form.
-/
import Derived.Test.YtdgoilkgplnhfaaGreatB45
import Derived.Test.YtdgoilkgplnhfaaGreatB46
namespace Go.Proofs.YtdgoilkgplnhfaaGreat
open Go.RowKit Go.Lib Go.Maps

/-- What Join tells of two automata in their one form. -/
def JoP (A B : DF) (base : Nat) (e : Ending) (w : World) : Prop :=
  (JoMany A B ∧ e = .returned (.tuple #[.agg #[.string ⟨#[]⟩, .slice none 0 0, .slice none 0 0], .slice none 0 0, .int .i64 2])) ∨
  ∃ (bs : By) (xa : Option Addr) (xn xc : Nat) (oa : Option Addr) (on oc : Nat) (NX OU : List Nat) (g c : Nat) (P : List Spn), e = .returned (.tuple #[.agg #[.string ⟨bs.toArray⟩, .slice xa xn xc, .slice oa on oc], .slice (some ⟨g, 0, none⟩) P.length c, .int .i64 0]) ∧ Rws w base [(.slice xa xn xc, NX), (.slice oa on oc, OU)] ∧ OwnQ w base (.slice (some ⟨g, 0, none⟩) P.length c) P ∧ MayA bs NX OU ∧ (dfA bs NX OU).Right ∧ OU.length ≤ 256 ∧ P.Pairwise PLt ∧ (∀ x ∈ P, ∃ t, Txt t ∧ x = (A.lab 0 t, B.lab 0 t)) ∧ ∀ t, Txt t → ∃ i : Nat, (dfA bs NX OU).lab 0 t = (i : Int) ∧ i < P.length ∧ gQ P i = (A.lab 0 t, B.lab 0 t)
theorem Ex101P.shape {S : Type} {val : S → Array Value} {V : S → Prop} {z : S} {fo : S → Nat → S} {M base : Nat} {e : Ending} {w : World} (h : Ex101P val V z fo M base e w) : ∃ v1 v2 b, e = .returned (.tuple #[v1, v2, .bool b]) := by
  rcases h with ⟨sv, xv, _, _, rfl, _⟩ | ⟨rfl, _⟩
  · exact ⟨_, _, _, rfl⟩
  · exact ⟨_, _, _, rfl⟩
set_option maxRecDepth 100000 in
set_option maxHeartbeats 8000000 in
theorem join_any (bsA bsB : By) (xA oA xB oB : Option Addr) (xAc oAc xBc oBc : Nat) (NA OA NB OB : List Nat) (w : World) (hA : AtA w bsA xA oA NA OA) (hB : AtA w bsB xB oB NB OB) :
    Calls Tryz.prog 23 #[.agg #[.string ⟨bsA.toArray⟩, .slice xA NA.length xAc, .slice oA OA.length oAc], .agg #[.string ⟨bsB.toArray⟩, .slice xB NB.length xBc, .slice oB OB.length oBc]] w fun e w' => JoP (dfA bsA NA OA) (dfA bsB NB OB) w.heap.size e w' ∧ Below w.heap.size w w' := by
  obtain ⟨w2, hw2⟩ : ∃ w2, w2 = (w.alloc (.cells #[.string ⟨bsA.toArray⟩, .slice xA NA.length xAc, .slice oA OA.length oAc] 24)).alloc (.cells #[.string ⟨bsB.toArray⟩, .slice xB NB.length xBc, .slice oB OB.length oBc] 24) := ⟨_, rfl⟩
  obtain ⟨X2, B1, B2, hs2⟩ := two_alloc' w #[.string ⟨bsA.toArray⟩, .slice xA NA.length xAc, .slice oA OA.length oAc] #[.string ⟨bsB.toArray⟩, .slice xB NB.length xBc, .slice oB OB.length oBc] 24 24
  rw [← hw2] at X2 B1 B2 hs2
  have X3 : Below w2.heap.size w2 (w2.alloc (.cells #[.string ⟨#[]⟩, .slice none 0 0, .slice none 0 0] 24)) := al (Below.refl _ _) _
  have B3 := heap_alloc_new w2 (.cells #[.string ⟨#[]⟩, .slice none 0 0, .slice none 0 0] 24)
  rw [hs2] at B3
  obtain ⟨w3, hw3⟩ : ∃ w3, w3 = w2.alloc (.cells #[.string ⟨#[]⟩, .slice none 0 0, .slice none 0 0] 24) := ⟨_, rfl⟩
  rw [← hw3] at X3 B3
  have X03 := bt X2 X3 (Nat.le_refl _)
  have HC : Hid (∀ V, Below w3.heap.size w3 V → (V.cell? ⟨w.heap.size, 0, none⟩ = some (.string ⟨bsA.toArray⟩) ∧ V.cell? ⟨w.heap.size, 1, none⟩ = some (.slice xA NA.length xAc) ∧ V.cell? ⟨w.heap.size, 2, none⟩ = some (.slice oA OA.length oAc)) ∧ (V.cell? ⟨w.heap.size + 1, 0, none⟩ = some (.string ⟨bsB.toArray⟩) ∧ V.cell? ⟨w.heap.size + 1, 1, none⟩ = some (.slice xB NB.length xBc) ∧ V.cell? ⟨w.heap.size + 1, 2, none⟩ = some (.slice oB OB.length oBc)) ∧ V.heap[w.heap.size + 2]? = some (.cells #[.string ⟨#[]⟩, .slice none 0 0, .slice none 0 0] 24 (0, 0)) ∧ AtA V bsA xA oA NA OA ∧ AtA V bsB xB oB NB OB ∧ w.heap.size + 2 < V.heap.size) := fun V x => by
    have y := bt X3 x (Nat.le_refl _)
    have Bv := (y.block _ (lt_of_block B1)).trans B1
    have Bw := (y.block _ (lt_of_block B2)).trans B2
    have Bz := (x.block _ (lt_of_block B3)).trans B3
    exact ⟨⟨by rw [cell_of_row _ _ _ _ _ _ Bv]; rfl, by rw [cell_of_row _ _ _ _ _ _ Bv]; rfl, by rw [cell_of_row _ _ _ _ _ _ Bv]; rfl⟩, ⟨by rw [cell_of_row _ _ _ _ _ _ Bw]; rfl, by rw [cell_of_row _ _ _ _ _ _ Bw]; rfl, by rw [cell_of_row _ _ _ _ _ _ Bw]; rfl⟩, Bz, hA.below (bt X03 x (Nat.le_refl _)), hB.below (bt X03 x (Nat.le_refl _)), lt_of_block Bz⟩
  have HX3 := hide X03
  have HS2 := hide hs2
  have hw0 : Hid (w.heap.size + 2 = w2.heap.size) := hs2.symm
  have HMA := hide hA.may
  have HMB := hide hB.may
  have HRA := hide hA.rt
  have HRB := hide hB.rt
  have hnA := hA.n
  have hnB := hB.n
  clear X2 B1 B2 hs2 X3 B3 X03 hA hB
  obtain ⟨⟨c0, c1, c2⟩, ⟨d0, d1, d2⟩, _, kA, kB, _⟩ := HC.out w3 (Below.refl _ _)
  have HR1 := hide (kA.right xAc oAc)
  clear kA kB
  go_enter Tryz.func23, Tryz.ntmps23
  go_upto_region 1 with fail
  rw [← hw2, ← hw3]
  rw [show w.heap.size + 1 + 1 = w.heap.size + 2 from rfl]
  clear hw2 hw3
  go_wp2_with (fail)
  refine HR1.out.mono ?_
  rintro e w4 ⟨rfl, x4⟩
  have X4 := hide x4
  clear HR1 c0 c1 c2 d0 d1 d2 x4
  obtain ⟨⟨c0, c1, c2⟩, ⟨d0, d1, d2⟩, _, _, kB, _⟩ := HC.out w4 X4.out
  have HR2 := hide (kB.right xBc oBc)
  clear kB
  go_wp2_with (fail)
  refine HR2.out.mono ?_
  rintro e w5 ⟨rfl, x5⟩
  have X5 := hide (bt X4.out x5 (Nat.le_refl _))
  clear HR2 c0 c1 c2 d0 d1 d2 x5
  obtain ⟨lit0, hlit0⟩ := lit101_ex
  have hAl := HMA.out.bl
  have hBl := HMB.out.bl
  have hb9 : ∀ (bs : By) (b : Nat), (bs.getD b 0).toNat ≤ 4294967296 := fun bs b => by have := (bs.getD b 0).toNat_lt; omega
  obtain ⟨look, hlook⟩ : ∃ look : Nat → Array Value, look = fun b => prV ((bsA.getD b 0).toNat, (bsB.getD b 0).toNat) := ⟨_, rfl⟩
  obtain ⟨lit, hlit⟩ : ∃ lit : Nat → Lit, lit = fun b => lit0 ((bsA.getD b 0).toNat, (bsB.getD b 0).toNat) := ⟨_, rfl⟩
  have hkk : ∀ b, keyOf Tryz.prog 101 (.agg (look b)) = some (lit b) := fun b => by rw [hlook, hlit]; exact hlit0 _ (hb9 _ _) (hb9 _ _)
  have HLI : Hid (∀ b c, b < 256 → c < 256 → lit b = lit c → (dfA bsA NA OA).bc b = (dfA bsA NA OA).bc c ∧ (dfA bsB NB OB).bc b = (dfA bsB NB OB).bc c) := fun b c _ _ e => by
    have h1 := hkk b
    rw [e] at h1
    have h2 := keyed101.inj h1 (hkk c)
    injection h2 with h2
    rw [hlook] at h2
    have h3 := prV_inj h2
    injection h3 with h3 h4
    exact ⟨h3, h4⟩
  have HN : Hid (Calls Tryz.prog 54 #[.int .i64 256, .func (.func 55) #[] #[.pointer (some ⟨w.heap.size, 0, none⟩), .pointer (some ⟨w.heap.size + 1, 0, none⟩)]] w5 fun e w' => (∃ v1 v2, e = .returned (.tuple #[v1, v2]) ∧ ∃ num fst, NmDone w5.heap.size lit 256 v1 v2 num fst w') ∧ Below w5.heap.size w5 w') :=
    numP_any 256 (.pointer (some ⟨w.heap.size, 0, none⟩)) (.pointer (some ⟨w.heap.size + 1, 0, none⟩)) look lit w5 (by decide) (fun i _ => hkk i) (fun i _ => by rw [hlook]; exact prV_size _) (fun i _ => by rw [hlook]; exact prV_all _) (fun i _ => keyed101.key (hkk i)) (fun i hi V x => by
      obtain ⟨⟨k0, _⟩, ⟨k1, _⟩, _, _, _, l⟩ := HC.out V (bt X5.out x (Nat.le_refl _))
      rw [hlook]
      exact join1_any i _ _ bsA bsB V hi hAl hBl k0 k1 (by omega) (by omega))
  clear hkk hlook hlit hb9
  clear look
  go_upto_region 4 with (go_at_call 54; refine HN.out.mono ?_; rintro e w6 ⟨⟨v1, v2, rfl, num, fst, hd⟩, x6⟩; obtain ⟨a1, k1, hv1, _⟩ := own_shape (show w6.ownsRow _ 3 1 _ num.length (nCells num) from hd.o1); obtain ⟨a2, k2, hv2, _⟩ := own_shape (show w6.ownsRow _ 3 1 _ fst.length (nCells fst) from hd.o2); subst hv1 hv2; have HD := hide hd; have X6 := hide x6; clear x6 hd)
  have X7 : Below w6.heap.size w6 (w6.alloc (.cells #[.slice a2 fst.length k2] 22)) := al (Below.refl _ _) _
  have B7 := heap_alloc_new w6 (.cells #[.slice a2 fst.length k2] 22)
  obtain ⟨w7, hw7⟩ : ∃ w7, w7 = w6.alloc (.cells #[.slice a2 fst.length k2] 22) := ⟨_, rfl⟩
  obtain ⟨p8, hp8⟩ : ∃ p8, p8 = w6.heap.size := ⟨_, rfl⟩
  rw [← hw7] at X7 B7 ⊢
  rw [← hp8] at B7 ⊢
  have HX57 := hide (bt X6.out X7 (Nat.le_refl _))
  have HX37 := hide (bt X5.out HX57.out (Nat.le_refl _))
  have HFL : Hid (fst.length ≤ 256) := HD.out.few
  have HK7 : Hid (∀ V, Below w7.heap.size w7 V → ((V.cell? ⟨w.heap.size, 0, none⟩ = some (.string ⟨bsA.toArray⟩) ∧ V.cell? ⟨w.heap.size, 1, none⟩ = some (.slice xA NA.length xAc) ∧ V.cell? ⟨w.heap.size, 2, none⟩ = some (.slice oA OA.length oAc)) ∧ (V.cell? ⟨w.heap.size + 1, 0, none⟩ = some (.string ⟨bsB.toArray⟩) ∧ V.cell? ⟨w.heap.size + 1, 1, none⟩ = some (.slice xB NB.length xBc) ∧ V.cell? ⟨w.heap.size + 1, 2, none⟩ = some (.slice oB OB.length oBc)) ∧ V.cell? ⟨p8, 0, none⟩ = some (.slice a2 fst.length k2)) ∧ V.heap[w.heap.size + 2]? = some (.cells #[.string ⟨#[]⟩, .slice none 0 0, .slice none 0 0] 24 (0, 0)) ∧ AtA V bsA xA oA NA OA ∧ AtA V bsB xB oB NB OB ∧ w.heap.size + 2 < V.heap.size ∧ p8 < V.heap.size ∧ NAt V a2 fst ∧ OwnN V w5.heap.size (.slice a1 num.length k1) num) := fun V x => by
    have x67 := bt X7 x (Nat.le_refl _)
    have Bv := (x.block _ (lt_of_block B7)).trans B7
    obtain ⟨q0, q1, q2, q3, q4, q5⟩ := HC.out V (bt HX37.out x (Nat.le_refl _))
    have o2 : OwnN V w5.heap.size (.slice a2 fst.length k2) fst := own_below HD.out.o2 x67
    exact ⟨⟨q0, q1, by rw [cell_of_row _ _ _ _ _ _ Bv]; rfl⟩, q2, q3, q4, q5, lt_of_block Bv, o2.nat, own_below HD.out.o1 x67⟩
  clear hw7 hp8 X7 B7 HN
  have HNA : Hid (0 < OA.length ∧ 0 < OB.length) := ⟨HMA.out.n0, HMB.out.n0⟩
  have HEX : Hid (∀ V, Below w7.heap.size w7 V → Calls Tryz.prog 56 #[.agg #[.int .i64 0, .int .i64 0], .int .i64 (fst.length : Nat), .func (.func 57) #[] #[.pointer (some ⟨w.heap.size, 0, none⟩), .pointer (some ⟨p8, 0, none⟩), .pointer (some ⟨w.heap.size + 1, 0, none⟩)]] V fun e w' => Ex101P prV (fun p => p.1 < OA.length ∧ p.2 < OB.length) (0, 0) (joC (dfA bsA NA OA) (dfA bsB NB OB) fst) fst.length V.heap.size e w' ∧ Below V.heap.size V w') := fun V x => by
    have hok : ∀ (s c : Nat) (bs : By) (NX OU : List Nat), MayA bs NX OU → s < OU.length → c < fst.length → (dfA bs NX OU).step s (gN fst c) < OU.length := fun s c bs NX OU hM hs hc => hM.ok.step hs (HD.out.nf.fstlt c hc)
    exact ex101_any fst.length _ _ _ ((0, 0) : Nat × Nat) prV lit0 (fun p => p.1 < OA.length ∧ p.2 < OB.length) (joC (dfA bsA NA OA) (dfA bsB NB OB) fst) V HFL.out HNA.out (fun s c hs hc => ⟨hok _ _ _ _ _ HMA.out hs.1 hc, hok _ _ _ _ _ HMB.out hs.2 hc⟩) (fun p _ => prV_size p) (fun p _ => prV_all p) (fun p hp => hlit0 p (by omega) (by omega)) (fun p hp => keyed101.key (hlit0 p (by omega) (by omega))) (fun p q hp hq e => by
        have h1 := hlit0 p (by omega) (by omega)
        rw [e] at h1
        have h2 := keyed101.inj h1 (hlit0 q (by omega) (by omega))
        injection h2 with h2
        exact prV_inj h2) (fun p c hp hc W y => by
        obtain ⟨⟨q0, q1, q2⟩, _, kA, kB, l0, l1, kn, _⟩ := HK7.out W (bt x y (Nat.le_refl _))
        have hf : fst[c]? = some (gN fst c) := by rw [List.getElem?_eq_getElem hc, gN_lt hc]
        exact join2_any p.1 p.2 c (gN fst c) _ _ _ bsA bsB xA oA xB oB a2 xAc oAc xBc oBc k2 NA OA NB OB fst W HMA.out HMB.out hp.1 hp.2 hf (HD.out.nf.fstlt c hc) kA.nx kB.nx kn q0 q1 q2 (by omega) l1 (by omega))
  obtain ⟨⟨_, _, g0⟩, _⟩ := HK7.out w7 (Below.refl _ _)
  clear hlit0
  have HI : Hid ((Tryz.prog.info? 24).map (·.size) = some 3) := by unfold Hid; kernel_rfl
  go_cut [9, 10, 11] (fun s1 s2 s3 wx => ∃ b : Bool, s3 = .bool b ∧ Hid (Ex101P prV (fun p => p.1 < OA.length ∧ p.2 < OB.length) (0, 0) (joC (dfA bsA NA OA) (dfA bsB NB OB) fst) fst.length w7.heap.size (.returned (.tuple #[s1, s2, .bool b])) wx) ∧ Hid (Below w7.heap.size w7 wx))
  case first =>
    as_aux_lemma =>
      go_wp2_with (go_at_call 56; refine (HEX.out _ (Below.refl _ _)).mono ?_; rintro e w9 ⟨hex, x9⟩; obtain ⟨v1, v2, b, rfl⟩ := hex.shape; have HE := hide hex; have Y9 := hide x9; clear x9 hex)
      go_meet
      exact ⟨_, rfl, HE, Y9⟩
  case rest =>
    obtain ⟨b, rfl, HE, Y9⟩ := hcut
    obtain ⟨_, BR, _⟩ := HK7.out wc Y9.out
    have HBR := hide BR
    have HXW := hide (bt HX3.out (bt HX37.out Y9.out (Nat.le_refl _)) (Nat.le_refl _))
    clear g0
    cases b with
    | false =>
      as_aux_lemma =>
        have HMN : Hid (JoMany (dfA bsA NA OA) (dfA bsB NB OB)) := by
          rcases HE.out with ⟨sv, xv, _, _, e, _⟩ | ⟨e, hm⟩
          · injection e with e; injection e with e; simp at e
          · exact jo_many HD.out hm
        have A0 : Hid ((#[.string ⟨#[]⟩, .slice none 0 0, .slice none 0 0] : Array Value).all (·.oneCell') = true) := by unfold Hid; simp [Value.oneCell']
        have B6 := setRow_heap wc (w.heap.size + 2) _ #[.string ⟨#[]⟩, .slice none 0 0, .slice none 0 0] 24 (0, 0) BR
        have k6 : Kept (fun k => k = w.heap.size + 2) wc (wc.setRow (w.heap.size + 2) #[.string ⟨#[]⟩, .slice none 0 0, .slice none 0 0]) := kept_row
        have X9 := hide (HXW.out.trans (k6.below HXW.out.size (fun b hb => by omega)))
        have z0 := cell_of_row _ _ 0 _ _ _ B6
        have z1 := cell_of_row _ _ 1 _ _ _ B6
        have z2 := cell_of_row _ _ 2 _ _ _ B6
        clear B6 k6 BR
        go_wp2_with (refine wpList_store_row rfl 24 (.tmp 4) (.tmp 44) rfl (w.heap.size + 2) #[.string ⟨#[]⟩, .slice none 0 0, .slice none 0 0] rfl rfl 24 #[.string ⟨#[]⟩, .slice none 0 0, .slice none 0 0] HBR.out HI.out rfl A0.out ?_)
        refine bodyPost_ret (by simp [results, Tryz.results23, go_sem, z0, z1, z2]; try rfl) rfl ?_
        exact ⟨.inl ⟨HMN.out, rfl⟩, X9.out⟩
    | true =>
      as_aux_lemma =>
        obtain ⟨St, NX, hED, hSt, hV, o1, o2⟩ : ∃ St NX, ExD ((0, 0) : Nat × Nat) (joC (dfA bsA NA OA) (dfA bsB NB OB) fst) fst.length St NX ∧ St.length ≤ 256 ∧ (∀ p ∈ St, p.1 < OA.length ∧ p.2 < OB.length) ∧ wc.ownsRow w7.heap.size 101 2 u9 St.length (oC prV St) ∧ OwnN wc w7.heap.size u10 NX := by
          rcases HE.out with ⟨sv, xv, St, NX, e, h1, h2, h3, h4, h5, _⟩ | ⟨e, _⟩
          · injection e with e
            injection e with e
            simp only [Array.mk.injEq, List.cons.injEq] at e
            rw [e.1, e.2.1]
            exact ⟨St, NX, h1, h2, h3, h4, h5⟩
          · injection e with e
            injection e with e
            simp at e
        obtain ⟨sa, sc, hu9, hsa⟩ := own_shape o1
        obtain ⟨xa, xc, hu10, _⟩ := own_shape (show wc.ownsRow _ 3 1 _ NX.length (nCells NX) from o2)
        subst hu9 hu10
        obtain ⟨sg, hsg⟩ := hsa hED.s0.1
        subst hsg
        have HED := hide hED
        obtain ⟨⟨⟨c0, c1, c2⟩, ⟨d0, d1, d2⟩, _⟩, _, kA, kB, _⟩ := HK7.out wc Y9.out
        have HLP := hide (labelPairs_any bsA bsB xA oA xB oB NA.length NB.length xAc oAc xBc oBc sg sc w7.heap.size OA OB St wc (by omega) hV kA.ou kB.ou o1)
        have HO2 := hide o2
        have HS0 := hide hED.s0.1
        unfold auV at HLP
        clear o1 o2 hED hV HE hsa BR kA kB
        go_upto_region 8 with (go_at_call 59; refine HLP.out.mono ?_; rintro e wl ⟨⟨lg, rfl, ol⟩, xl⟩; have OL := hide ol; have XL := hide xl; clear ol xl)
        clear HLP c0 c1 c2 d0 d1 d2
        have HRI : Hid (Calls Tryz.prog 60 #[.slice (some ⟨lg, 0, none⟩) St.length St.length] wl fun e w' => (∃ g' c' P, e = .returned (.slice (some ⟨g', 0, none⟩) P.length c') ∧ OwnQ w' wl.heap.size (.slice (some ⟨g', 0, none⟩) P.length c') P ∧ RoS (lpL OA OB St) P) ∧ Below wl.heap.size wl w') := by
          have hll := lpL_len OA OB St
          have := rising_any wc.heap.size lg St.length (lpL OA OB St) wl (by rw [hll]; exact HS0.out) (by omega) (by rw [hll]; exact OL.out)
          rw [hll] at this
          exact this
        go_upto_region 9 with (go_at_call 60; refine HRI.out.mono ?_; rintro e wp ⟨⟨rg, rc, P, rfl, op, hro⟩, xp⟩; have OP := hide op; have XP := hide xp; have HRO := hide hro; clear op xp hro)
        clear HRI
        have hPl : P.length ≤ 256 := by have := HRO.out.le; rw [lpL_len] at this; omega
        have HXC := hide (bt Y9.out (bt XL.out XP.out (Nat.le_refl _)) (Nat.le_refl _))
        have HKC : Hid (∀ W, Below wp.heap.size wp W → W.heap[w.heap.size + 2]? = some (.cells #[.string ⟨#[]⟩, .slice none 0 0, .slice none 0 0] 24 (0, 0)) ∧ NAt W a1 num ∧ NAt W xa NX ∧ OwnQ W wc.heap.size (.slice (some ⟨lg, 0, none⟩) St.length St.length) (lpL OA OB St) ∧ OwnQ W wl.heap.size (.slice (some ⟨rg, 0, none⟩) P.length rc) P) := fun W y => by
          obtain ⟨_, q1, _, _, _, _, _, q7⟩ := HK7.out W (bt HXC.out y (Nat.le_refl _))
          have x1 := bt XP.out y (Nat.le_refl _)
          exact ⟨q1, q7.nat, OwnN.nat (own_below HO2.out (bt XL.out x1 (Nat.le_refl _))), own_below OL.out x1, own_below OP.out y⟩
        have HXWP := hide (bt HXW.out (bt XL.out XP.out (Nat.le_refl _)) (Nat.le_refl _))
        obtain ⟨i3, hi3, hz30, hz31, hz32⟩ := info_parts Tryz.info3n
        go_wp2_with (at_make; refine wpList_make_full _ rfl (.tmp 52) (.tmp 52) 22 rfl wp.heap.size 3 i3 (.int .i64 0) 1 Tryz.underlying22 hi3 hz30 hz31 .i64 .i64 _ _ St.length rfl rfl rfl rfl (by rw [hz32]; omega) (by unfold maxLen; omega) (Nat.le_refl _) ?_; intro wm h1 h2; have XM0 := hide (below_of_grown h2); have OM0 : Hid (OwnN wm wp.heap.size (.slice (some ⟨wp.heap.size, 0, none⟩) St.length St.length) ([] ++ List.replicate (St.length - 0) 0)) := (by unfold Hid OwnN; rw [made_nums] at h1; simpa using h1); clear h1 h2)
        go_loopg [56] (St.length + 1) (fun g x wr => ∃ (i : Nat) (O : List Nat), x = .int .i64 (i : Nat) ∧ i ≤ St.length ∧ Hid (Plc P (lpL OA OB St) O i) ∧ Hid (OwnN wr wp.heap.size (.slice (some ⟨wp.heap.size, 0, none⟩) St.length St.length) (O ++ List.replicate (St.length - i) 0)) ∧ Hid (Below wp.heap.size wp wr) ∧ St.length - i < g)
        case atStart => exact ⟨0, [], rfl, by omega, ⟨rfl, fun j hj => by omega⟩, OM0, XM0, by omega⟩
        case round =>
          obtain ⟨i, O, rfl, hi1, HPC, OW, XB, hg⟩ := hrel
          have HG := hide hg
          clear hg OM0 XM0
          by_cases hi : i < St.length
          · as_aux_lemma =>
            have hi' : (i : Int) < (St.length : Int) := by omega
            obtain ⟨_, _, _, ol, op⟩ := HKC.out wr XB.out
            have hll := lpL_len OA OB St
            obtain ⟨p, hp⟩ : ∃ p : Spn, Hid (p = gQ (lpL OA OB St) i) := ⟨_, rfl⟩
            obtain ⟨s0, s1, _, _⟩ := OwnQ.cells ol (i := i) (by omega)
            have e9 : (lpL OA OB St).getD i (0, 0) = p := hp.out.symm
            rw [e9] at s0 s1
            have X4 := hide (bt XB.out (al (Below.refl wr.heap.size wr) (.cells #[.int .i64 p.1, .int .i64 p.2] 48)) (Nat.le_refl _))
            have hB4 := heap_alloc_new wr (.cells #[.int .i64 p.1, .int .i64 p.2] 48)
            have t0 := cell_of_row _ _ 0 _ _ _ hB4
            have t1 := cell_of_row _ _ 1 _ _ _ hB4
            have O4 : OwnN (wr.alloc (.cells #[.int .i64 p.1, .int .i64 p.2] 48)) wp.heap.size (.slice (some ⟨wp.heap.size, 0, none⟩) St.length St.length) (O ++ List.replicate (St.length - i) 0) := own_below OW.out (al (Below.refl _ _) _)
            obtain ⟨w4, hw4⟩ : ∃ w4, w4 = wr.alloc (.cells #[.int .i64 p.1, .int .i64 p.2] 48) := ⟨_, rfl⟩
            rw [← hw4] at X4 t0 t1 O4
            obtain ⟨_, _, _, _, op4⟩ := HKC.out w4 X4.out
            have hmem : p ∈ P := (HRO.out.mem p).2 (by rw [hp.out, gQ_lt (by omega)]; exact List.getElem_mem _)
            have HIX := hide (indexP_any wl.heap.size rg rc P p w4 (by omega) hmem op4)
            have HO4 := hide O4
            have hl2 : (O ++ List.replicate (St.length - i) 0).length = St.length := by have := HPC.out.1; simp; omega
            clear ol op op4 hB4 O4 e9 hmem hll
            go_upto_region 13 with fail
            rw [← hw4]
            clear hw4 s0 s1
            go_wp2_with (go_at_call 61; refine HIX.out.mono ?_; rintro e w5 ⟨⟨x, rfl, hx1, hx2⟩, x5⟩; have o5 : OwnN w5 wp.heap.size (.slice (some ⟨wp.heap.size, 0, none⟩) St.length St.length) (O ++ List.replicate (St.length - i) 0) := own_below HO4.out x5; obtain ⟨⟨u1, q1⟩, q2⟩ := slotN o5 (i := i) (by omega); have HPN := hide (HPC.out.next hx1 (show gQ P x = gQ (lpL OA OB St) i from hx2.trans hp.out)); obtain ⟨o6, k6⟩ := o5.store i x; rw [plc_set HPC.out.1 hi] at o6; have ON := hide o6; have x7 := bt X4.out x5 (Nat.le_refl _); have X5 := hide (x7.trans (k6.below x7.size (fun k hk => by omega))); clear o5 o6 k6 x5 x7 hx1 hx2)
            go_roundg (St.length - (i + 1) + 1)
            case measure => have := HG.out; omega
            case rel => exact ⟨i + 1, O ++ [x], by first | rfl | go_num | (congr 1; omega), by omega, HPN, ON, X5, by omega⟩
          · as_aux_lemma =>
            have hi' : ¬ (i : Int) < (St.length : Int) := by omega
            obtain rfl : i = St.length := by omega
            have o4 : OwnN wr wp.heap.size (.slice (some ⟨wp.heap.size, 0, none⟩) St.length St.length) O := by have := OW.out; rwa [Nat.sub_self, List.replicate_zero, List.append_nil] at this
            obtain ⟨_, kn, _, _, _⟩ := HKC.out wr XB.out
            have hOl := HPC.out.1
            have HMAY := hide (jo_may HD.out HED.out hSt hOl (HPC.out.lb (by omega)))
            have HBC := hide (byteColumns_any a1 k1 num wr (by rw [HD.out.len]; decide) (num_lt HD.out) kn)
            have HOF : Hid (∀ W, Below wr.heap.size wr W → Calls Tryz.prog 34 #[.agg #[.string ⟨(btOf num).toArray⟩, .slice xa NX.length xc, .slice (some ⟨wp.heap.size, 0, none⟩) St.length St.length]] W fun e w' => OneP (btOf num) NX O W.heap.size e w' ∧ Below W.heap.size W w') := fun W y => by
              obtain ⟨_, _, kx, _, _⟩ := HKC.out W (bt XB.out y (Nat.le_refl _))
              have := oneForm_any (btOf num) xa (some ⟨wp.heap.size, 0, none⟩) xc St.length NX O W HMAY.out kx (OwnN.nat (own_below o4 y))
              rw [hOl] at this
              exact this
            have HNW : Hid (w.heap.size + 2 < wc.heap.size) := lt_of_block HBR.out
            clear kn o4
            go_wp2_with (go_at_call 48; refine HBC.out.mono ?_; rintro e w4 ⟨rfl, x4⟩; have X4 := hide x4; clear x4 HBC)
            refine (HOF.out _ X4.out).mono ?_
            rintro e w5 ⟨hP, x5⟩
            obtain ⟨bs', ya, yn, yc, oa', on, oc', mm, rfl⟩ := hP.shape
            have X5 := hide (bt XB.out (bt X4.out x5 (Nat.le_refl _)) (Nat.le_refl _))
            have A4 : Hid ((#[.string ⟨bs'.toArray⟩, .slice ya yn yc, .slice oa' on oc'] : Array Value).all (·.oneCell') = true) := by unfold Hid; simp [Value.oneCell']
            have x6 : Below w5.heap.size w5 (w5.alloc (.cells #[.string ⟨bs'.toArray⟩, .slice ya yn yc, .slice oa' on oc'] 24)) := al (Below.refl _ _) _
            have B6 := heap_alloc_new w5 (.cells #[.string ⟨bs'.toArray⟩, .slice ya yn yc, .slice oa' on oc'] 24)
            obtain ⟨w6, hw6⟩ : ∃ w6, w6 = w5.alloc (.cells #[.string ⟨bs'.toArray⟩, .slice ya yn yc, .slice oa' on oc'] 24) := ⟨_, rfl⟩
            rw [← hw6] at x6 B6
            have X6 := hide (bt X5.out x6 (Nat.le_refl _))
            obtain ⟨B4, _, _, _, op⟩ := HKC.out w6 X6.out
            have HB4 := hide B4
            have B7 := setRow_heap w6 (w.heap.size + 2) _ #[.string ⟨bs'.toArray⟩, .slice ya yn yc, .slice oa' on oc'] 24 (0, 0) B4
            have k7 : Kept (fun k => k = w.heap.size + 2) w6 (w6.setRow (w.heap.size + 2) #[.string ⟨bs'.toArray⟩, .slice ya yn yc, .slice oa' on oc']) := kept_row
            have k57 := (Kept.of_below (F := fun k => k = w.heap.size + 2) x6).trans k7
            have x9 := bt HXWP.out X6.out (Nat.le_refl _)
            have X9 := hide (x9.trans (k7.below x9.size (fun b hb => by omega)))
            have hs4 := X4.out.size
            have hs3 := XB.out.size
            have hs2 := XP.out.size
            have hs1 := XL.out.size
            have hsw := HNW.out
            have HP6 := hide (hP.kept k57 (by omega) (show w.heap.size ≤ w4.heap.size by omega))
            have HOP : Hid (OwnQ (w6.setRow (w.heap.size + 2) #[.string ⟨bs'.toArray⟩, .slice ya yn yc, .slice oa' on oc']) w.heap.size (.slice (some ⟨rg, 0, none⟩) P.length rc) P) := by
              have hlt := (World.ownsRow.lt (show w6.ownsRow wl.heap.size 48 2 (.slice (some ⟨rg, 0, none⟩) P.length rc) _ (spCells _) from op) rg rfl).1
              exact OwnQ.mono (own_kept op k7 (fun k hk => by
                have hk : rg = k := by injection hk
                show ¬ k = w.heap.size + 2
                omega)) (by omega)
            have b0 := cell_of_row _ _ 0 _ _ _ B6
            have b1 := cell_of_row _ _ 1 _ _ _ B6
            have b2 := cell_of_row _ _ 2 _ _ _ B6
            have z0 := cell_of_row _ _ 0 _ _ _ B7
            have z1 := cell_of_row _ _ 1 _ _ _ B7
            have z2 := cell_of_row _ _ 2 _ _ _ B7
            clear B6 k7 k57 B4 x9 x5 x6 hP HOF op B7
            go_upto_region 16 with fail
            rw [← hw6]
            clear hw6
            go_wp2_with (refine wpList_store_row rfl 24 (.tmp 4) (.tmp 77) rfl (w.heap.size + 2) #[.string ⟨bs'.toArray⟩, .slice ya yn yc, .slice oa' on oc'] rfl rfl 24 #[.string ⟨#[]⟩, .slice none 0 0, .slice none 0 0] HB4.out HI.out rfl A4.out ?_)
            refine bodyPost_ret (by simp [results, Tryz.results23, go_sem, z0, z1, z2]; try rfl) rfl ?_
            refine ⟨.inr ?_, X9.out⟩
            clear z0 z1 z2 X9 A4
            generalize w6.setRow (w.heap.size + 2) #[.string ⟨bs'.toArray⟩, .slice ya yn yc, .slice oa' on oc'] = wf at HP6 HOP ⊢
            rcases HP6.out with ⟨bs2, xa2, xn2, xc2, oa2, on2, oc2, e, NX', OU', hd⟩ | ⟨_, hno⟩
            · injection e with e
              injection e with e
              simp only [auV, Array.mk.injEq, List.cons.injEq, Value.agg.injEq, Value.int.injEq] at e
              obtain ⟨⟨e0, e1, e2, _⟩, ⟨_, e3⟩, _⟩ := e
              rw [e0, e1, e2, e3]
              refine ⟨bs2, xa2, xn2, xc2, oa2, on2, oc2, NX', OU', rg, rc, P, rfl, hd.rws, HOP.out, hd.may, hd.rt, hd.n, HRO.out.up, jo_pairs HD.out HED.out HRO.out, fun t ht => ?_⟩
              · rw [hd.lb t ht]
                exact jo_lab HD.out HLI.out HED.out HPC.out ht
            · have h1 := hno (dfA (btOf num) NX O) HMAY.out.ok (fun t _ => rfl)
              have h2 : (dfA (btOf num) NX O).n = St.length := hOl
              omega
end Go.Proofs.YtdgoilkgplnhfaaGreat
