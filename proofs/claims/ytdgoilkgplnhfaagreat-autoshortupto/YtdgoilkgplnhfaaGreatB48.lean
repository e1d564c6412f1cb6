/-
  AutoShort answers true. Conditions: patterns of at most 2^32 bytes, texts no longer than a process can hold.
-/
import Derived.Test.YtdgoilkgplnhfaaGreatB47
namespace Go.Proofs.YtdgoilkgplnhfaaGreat
open Go.RowKit Go.Lib

theorem less_of_lx : ∀ (a b : By), a.length = b.length → Lx (ntL a) (ntL b) → (Op.bytesLess a b || a == b) = true
  | [], [], _, _ => rfl
  | [], _ :: _, h, _ => by simp at h
  | _ :: _, [], h, _ => by simp at h
  | x :: a, y :: b, h, hl => by
    unfold Op.bytesLess
    rcases hl with hl | ⟨he, hl⟩
    · have : x < y := hl
      simp [this]
    · have : x = y := UInt8.toNat_inj.1 he
      subst this
      have ih := less_of_lx a b (by simpa using h) hl
      simp only [Bool.or_eq_true, beq_iff_eq] at ih
      rcases ih with ih | ih
      · simp [ih]
      · simp [ih]
set_option maxRecDepth 100000 in
set_option maxHeartbeats 8000000 in
theorem autoShort_any (pat : By) (label : Int) (s : By) (w : World) (hp : pat.length ≤ 4294967296) (hf : Fit label) (hs : s.length ≤ 140737488351232) :
    Calls Tryz.prog 8 #[.string ⟨pat.toArray⟩, .int .i64 label, .string ⟨s.toArray⟩] w fun e w' => e = .returned (.bool true) ∧ Below w.heap.size w w' := by
  have HK := hide (known_any w)
  go_enter Tryz.func8, Tryz.ntmps8
  go_upto_region 2 with (go_at_call 10; refine HK.out.mono ?_; rintro e w1 ⟨rfl, x1⟩; have X1 := hide x1; clear x1)
  have HP := hide (parseP_any pat w1 hp)
  clear HK
  go_wp2_with (fail)
  refine HP.out.mono ?_
  rintro e w2 ⟨hP, x2⟩
  have X2 := hide (bt X1.out x2 (Nat.le_refl _))
  clear HP x2 X1
  rcases hP with ⟨ao, cap, D, rfl, hR, hat, _⟩ | ⟨n, rfl⟩
  · have HO := hide (ofR_any ao cap D w2 hR hat)
    clear hR hat
    go_wp2_with (fail)
    refine HO.out.mono ?_
    rintro e w3 ⟨hO, x3⟩
    have X3 := hide (bt X2.out x3 (Nat.le_refl _))
    clear HO x3 X2
    rcases hO with ⟨_, rfl⟩ | ⟨bs, xa, oa, xc, oc, NX, OU, rfl, hof⟩
    · have XW : Hid (Below w.heap.size w (w3.alloc (.cells #[.string ⟨#[]⟩, .slice none 0 0, .slice none 0 0] 24))) := bt X3.out (al (Below.refl _ _) _) (Nat.le_refl _)
      go_wp2
      go_ret
      exact ⟨rfl, XW.out⟩
    · have HF := hide hof
      have X4 : Below w3.heap.size w3 (w3.alloc (.cells #[.string ⟨bs.toArray⟩, .slice xa NX.length xc, .slice oa OU.length oc] 24)) := al (Below.refl _ _) _
      have B4 := heap_alloc_new w3 (.cells #[.string ⟨bs.toArray⟩, .slice xa NX.length xc, .slice oa OU.length oc] 24)
      obtain ⟨w4, hw4⟩ : ∃ w4, w4 = w3.alloc (.cells #[.string ⟨bs.toArray⟩, .slice xa NX.length xc, .slice oa OU.length oc] 24) := ⟨_, rfl⟩
      obtain ⟨pb, hpb⟩ : ∃ pb, pb = w3.heap.size := ⟨_, rfl⟩
      rw [← hw4] at X4 B4
      rw [← hpb] at B4
      have HX4 := hide (bt X3.out X4 (Nat.le_refl _))
      have HC : Hid (∀ V, Below w4.heap.size w4 V → V.cell? ⟨pb, 0, none⟩ = some (.string ⟨bs.toArray⟩) ∧ V.cell? ⟨pb, 1, none⟩ = some (.slice xa NX.length xc) ∧ V.cell? ⟨pb, 2, none⟩ = some (.slice oa OU.length oc)) := fun V x => by
        have Bv := (x.block _ (lt_of_block B4)).trans B4
        exact ⟨by rw [cell_of_row _ _ _ _ _ _ Bv]; rfl, by rw [cell_of_row _ _ _ _ _ _ Bv]; rfl, by rw [cell_of_row _ _ _ _ _ _ Bv]; rfl⟩
      have HAT := hide (fun V (x : Below w4.heap.size w4 V) => HF.out.at'.below (bt X4 x (Nat.le_refl _)))
      clear hof X4 B4
      go_upto_region 6 with fail
      rw [← hw4, ← hpb]
      clear hw4 hpb
      have HPK := hide (pick_any label 2 hf (by decide) (by decide) w4)
      obtain ⟨n, hn⟩ : ∃ n, Hid (n = pkZ label 2) := ⟨_, rfl⟩
      rw [← hn.out] at HPK
      have HSH := hide ((HAT.out w4 (Below.refl _ _)).short xc oc (n : Int))
      obtain ⟨c0, c1, c2⟩ := HC.out w4 (Below.refl _ _)
      go_upto_region 10 with (first
        | (go_at_call 32; refine HPK.out.mono ?_; rintro e w5 ⟨rfl, hw5⟩; have hw5 := hw5.symm; subst hw5)
        | (go_at_call 29; refine HSH.out.mono ?_; rintro e w5 ⟨⟨t, is, rfl, hsh⟩, x5⟩; have HS := hide hsh; have X5 := hide x5; clear hsh x5))
      have HRU := hide ((HAT.out w5 X5.out).run xc oc s hs)
      obtain ⟨c0, c1, c2⟩ := HC.out w5 X5.out
      go_upto_region 11 with (go_at_call 27; refine HRU.out.mono ?_; rintro e w6 ⟨rfl, x6⟩; have X6 := hide (bt HX4.out (bt X5.out x6 (Nat.le_refl _)) (Nat.le_refl _)); clear x6)
      obtain ⟨l, hl⟩ : ∃ l, Hid (l = (dfA bs NX OU).lab 0 (ntL s)) := ⟨_, rfl⟩
      rw [← hl.out]
      rcases HS.out with ⟨rfl, st, u, k1, k2, k3, k4, rfl⟩ | ⟨rfl, rfl, k⟩
      · by_cases hln : l = (n : Int)
        · have hsl : Sl u (ntL s) := DF.LT.first HF.out.at'.rt k1 k4 (fun q hq => by rw [k2]; exact k3 q hq) (ntL_txt s) (by rw [← hl.out, hln, k2])
          obtain ⟨ht, _⟩ := k4.run
          have hlu : (btOf u).length = u.length := by unfold btOf; rw [List.length_map]
          have hls : (ntL s).length = s.length := by unfold ntL; rw [List.length_map]
          clear k1 k2 k3 k4
          generalize hv : btOf u = v at *
          have hnu : ntL v = u := by rw [← hv, txt_nt ht]
          rw [← hnu] at hsl
          clear hv hnu ht hlu hls
          have e1 : (ntL v).length = v.length := by unfold ntL; rw [List.length_map]
          have e2 : (ntL s).length = s.length := by unfold ntL; rw [List.length_map]
          unfold Sl at hsl
          rw [e1, e2] at hsl
          subst hln
          rcases hsl with h1 | ⟨h1, h2⟩
          · have h1' : (v.length : Int) < (s.length : Int) := by omega
            clear e1 e2
            go_wp2
            go_ret
            exact ⟨rfl, X6.out⟩
          · have h1' : ¬ (v.length : Int) < (s.length : Int) := by omega
            have h1'' : ¬ v.length < s.length := by omega
            have hle := less_of_lx v s h1 h2
            clear e1 e2
            go_wp2
            go_ret
            exact ⟨rfl, X6.out⟩
        · clear k1 k2 k3 k4
          generalize btOf u = v at *
          go_wp2
          go_ret
          exact ⟨rfl, X6.out⟩
      · have hln : ¬ l = (n : Int) := fun e => by
          refine k _ (HF.out.at'.rt.toOk.run HF.out.at'.rt.n0 (ntL_txt s)) ?_
          rw [← e, hl.out]
          rfl
        go_wp2
        go_ret
        exact ⟨rfl, X6.out⟩
  · go_wp2
    go_ret
    exact ⟨rfl, X2.out⟩
end Go.Proofs.YtdgoilkgplnhfaaGreat
