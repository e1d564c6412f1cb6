/-
  The document's cut by its contract. No condition.
-/
import Derived.Test.YtaafeflbanoncaaP33
import Derived.Deep.DeepCutAuto
namespace Go.Proofs.Ytaafeflbanoncaa
open Go.RowKit Go.Lib Go.Maps

section
variable {w w' : World} {u : Cu} {N : List Nd} {Q : Nat → Prop} {D : List Int}
theorem OfL.there {f r : Int} (h : DC w u N Q D 0) (x : Below w.heap.size w w') (p : PtU u N f r) : OfL u N Q f w (.returned (.int .i64 r)) w' :=
  ⟨r, 0, N, Q, D, rfl, h.below x, ⟨[], by simp⟩, Kept.of_below x, Gw.refl _ _, ins_rep h.ra.ok ⟨p.has, p.say⟩, .inl ⟨rfl, p⟩⟩
set_option maxRecDepth 100000 in
theorem of_err {f : Int} (h : DC w u N Q D 2) : Calls Try.prog 75 #[.pointer (some ⟨u.mm, 0, none⟩), .int .i64 f] w fun e w' => e = .returned (.int .i64 f) ∧ w' = w := by
  have HL := hide (h.ra.level f)
  obtain ⟨q0, q1, q2, q3, q4⟩ := h.blk.cells
  clear h
  generalize lvl u.S N f = y at *
  by_cases hgt : (u.lv : Int) < y
  · go_enter Try.func75, Try.ntmps75
    go_wp2_with (go_at_call 53; refine HL.out.mono ?_; rintro e w1 ⟨rfl, hw1⟩; have hw2 := hw1.symm; clear hw1; subst hw2)
    go_ret
    exact ⟨rfl, rfl⟩
  · go_enter Try.func75, Try.ntmps75
    go_wp2_with (go_at_call 53; refine HL.out.mono ?_; rintro e w1 ⟨rfl, hw1⟩; have hw2 := hw1.symm; clear hw1; subst hw2)
    go_ret
    exact ⟨rfl, rfl⟩
set_option maxRecDepth 100000 in
set_option maxHeartbeats 4000000 in
theorem of_step {fn : Nat} (h : DC w u N Q D 0) (hf : fn < u.n)
    (hp : ∀ (l : Nat), l < u.lv → lvl u.S N (fn : Int) = (l : Int) → ∀ w N Q D f, DC w u N Q D 0 → (0 ≤ f ∧ f < (u.n : Int)) → (l : Int) < lvl u.S N f → Calls Try.prog 75 #[.pointer (some ⟨u.mm, 0, none⟩), .int .i64 f] w fun e w' => OfL u N Q f w e w') :
    Calls Try.prog 75 #[.pointer (some ⟨u.mm, 0, none⟩), .int .i64 (fn : Int)] w fun e w' => OfL u N Q (fn : Int) w e w' := by
  have hdn := h.dn
  have hok := h.ra.ok
  have hF : hasR N (fn : Int) := ⟨by omega, by omega⟩
  have hfl := hok.lvl_le hF
  have hlv := h.lv
  have hcl := h.cl
  have HLV := hide (h.ra.level (fn : Int))
  obtain ⟨q0, q1, q2, q3, q4⟩ := h.blk.cells
  by_cases hgt : (u.lv : Int) < lvl u.S N (fn : Int)
  · have FIN := hide (OfL.there h (Below.refl _ _) ((rs_high (c := cfU u) hok hF rfl rfl hcl hgt).yes rfl))
    clear h hp hdn hok hF hlv hcl hfl
    generalize lvl u.S N (fn : Int) = y at *
    generalize (fn : Int) = f at *
    go_enter Try.func75, Try.ntmps75
    go_wp2_with (go_at_call 53; refine HLV.out.mono ?_; rintro e w1 ⟨rfl, hw1⟩; have hw2 := hw1.symm; clear hw1; subst hw2)
    go_ret
    exact FIN.out
  by_cases heq : lvl u.S N (fn : Int) = (u.lv : Int)
  · obtain ⟨h2, ks, hn⟩ := hok.node_of_lvl hF heq hlv
    have hat := hn.at_
    have hcl' : u.cl < ks.length := by have := hn.len; omega
    have y1 : Below w.heap.size w w.drew := (Below.refl _ w).drew
    have FIN := hide (OfL.there h y1 ((rs_at (c := cfU u) hok hF h2 rfl rfl hcl' hn).yes rfl))
    have HKD : Hid (Calls Try.prog 68 #[.pointer (some ⟨u.x, 0, none⟩), .int .i64 (fn : Int), .int .i64 (u.cl : Int)] w.drew fun e w' => e = .returned (.int .i64 (ks.getD u.cl 0)) ∧ w' = w.drew) := by
      have := kidD_any (h.below y1).ra hat hcl'
      have e1 : (((fn : Int) - 2).toNat : Int) + 2 = (fn : Int) := by omega
      rw [e1] at this
      exact this
    have M1 := hide (h.below y1)
    rw [heq] at HLV
    have hlv' : ¬ (u.lv : Int) < (u.lv : Int) := by omega
    clear h hp hdn hok hF hlv hcl hfl hgt heq hn hat hcl' y1 h2
    go_enter Try.func75, Try.ntmps75
    go_upto_region 5 with (go_at_call 53; refine HLV.out.mono ?_; rintro e w1 ⟨rfl, hw1⟩; have hw2 := hw1.symm; clear hw1; subst hw2)
    clear HLV q0 q1 q2 q3 q4
    refine wp_unt (S := fun V => V = w.drew) 10 (by kernel_rfl) ?_
    generalize w.drew = w4 at *
    obtain ⟨q0, q1, q2, q3, q4⟩ := M1.out.blk.cells
    refine UntH.take (i := 0) (some 36) rfl rfl (by kernel_rfl) (by kernel_rfl) (by kernel_rfl) (by kernel_rfl) (fun _ _ _ _ h => h) (by rfl) rfl ?_
    apply Exists.intro
    refine ⟨fun w' hw' => ?_, ?_⟩
    · subst hw'
      go_simp
      first | done | rfl
    try simp only [Act.put, List.setIfInBounds_toArray, List.set_cons_zero, List.set_cons_succ]
    refine UntH.take (i := 1) (some 37) rfl rfl (by kernel_rfl) (by kernel_rfl) (by kernel_rfl) (by kernel_rfl) (fun _ _ _ _ h => h) (by rfl) rfl ?_
    apply Exists.intro
    refine ⟨fun w' hw' => ?_, ?_⟩
    · subst hw'
      go_simp
      first | done | rfl
    try simp only [Act.put, List.setIfInBounds_toArray, List.set_cons_zero, List.set_cons_succ]
    refine UntH.take (i := 2) (some 38) rfl rfl (by kernel_rfl) (by kernel_rfl) (by kernel_rfl) (by kernel_rfl) (fun _ _ _ _ h => h) (by rfl) rfl ?_
    apply Exists.intro
    refine ⟨fun w' hw' => ?_, ?_⟩
    · subst hw'
      go_simp
      first | done | rfl
    try simp only [Act.put, List.setIfInBounds_toArray, List.set_cons_zero, List.set_cons_succ]
    refine UntH.take (i := 3) (some 39) rfl rfl (by kernel_rfl) (by kernel_rfl) (by kernel_rfl) (by kernel_rfl) (fun _ _ _ _ h => h) (by rfl) rfl ?_
    apply Exists.intro
    refine ⟨fun w' hw' => ?_, ?_⟩
    · subst hw'
      go_simp
      first | done | rfl
    try simp only [Act.put, List.setIfInBounds_toArray, List.set_cons_zero, List.set_cons_succ]
    refine UntH.take (i := 4) (some 40) rfl rfl (by kernel_rfl) (by kernel_rfl) (by kernel_rfl) (by kernel_rfl) (fun _ _ _ _ h => h) (by rfl) rfl ?_
    apply Exists.intro
    refine ⟨fun w' hw' => ?_, ?_⟩
    · subst hw'
      go_simp
      first | done | rfl
    try simp only [Act.put, List.setIfInBounds_toArray, List.set_cons_zero, List.set_cons_succ]
    refine UntH.take (i := 5) (some 41) rfl rfl (by kernel_rfl) (by kernel_rfl) (by kernel_rfl) (by kernel_rfl) (fun _ _ _ _ h => h) (by rfl) rfl ?_
    apply Exists.intro
    refine ⟨fun w' hw' => ?_, ?_⟩
    · subst hw'
      go_simp
      first | done | rfl
    try simp only [Act.put, List.setIfInBounds_toArray, List.set_cons_zero, List.set_cons_succ]
    refine UntH.take (i := 6) (some 42) rfl rfl (by kernel_rfl) (by kernel_rfl) (by kernel_rfl) (by kernel_rfl) (fun _ _ _ _ h => h) (by rfl) rfl ?_
    apply Exists.intro
    refine ⟨fun w' hw' => ?_, ?_⟩
    · subst hw'
      go_simp
      first | done | rfl
    try simp only [Act.put, List.setIfInBounds_toArray, List.set_cons_zero, List.set_cons_succ]
    refine UntH.take (i := 7) (some 43) rfl rfl (by kernel_rfl) (by kernel_rfl) (by kernel_rfl) (by kernel_rfl) (fun _ _ _ _ h => h) (by rfl) rfl ?_
    apply Exists.intro
    refine ⟨fun w' hw' => ?_, ?_⟩
    · subst hw'
      go_simp
      first | done | rfl
    try simp only [Act.put, List.setIfInBounds_toArray, List.set_cons_zero, List.set_cons_succ]
    refine UntH.take (i := 8) (some 44) rfl rfl (by kernel_rfl) (by kernel_rfl) (by kernel_rfl) (by kernel_rfl) (fun _ _ _ _ h => h) (by rfl) rfl ?_
    apply Exists.intro
    refine ⟨fun w' hw' => ?_, ?_⟩
    · subst hw'
      go_simp
      first | done | rfl
    try simp only [Act.put, List.setIfInBounds_toArray, List.set_cons_zero, List.set_cons_succ]
    refine UntH.step (i := 9) (by kernel_rfl) rfl (fun K hK => ?_)
    go_simp
    refine HKD.out.mono ?_
    rintro e w5 ⟨rfl, hw5⟩
    have hw6 := hw5.symm
    clear hw5
    subst hw6
    go_simp
    refine hK _ _ rfl ?_
    clear hK K
    refine UntH.last (by kernel_rfl) rfl (by kernel_rfl) (by kernel_rfl) (fun K hK => ?_)
    go_simp
    refine hK _ _ ?_
    clear hK K q0 q1 q2 q3 q4
    go_wp2
    go_ret
    exact FIN.out
  obtain ⟨l, hl⟩ : ∃ l : Nat, lvl u.S N (fn : Int) = (l : Int) := ⟨(lvl u.S N (fn : Int)).toNat, by omega⟩
  have hll : l < u.lv := by omega
  have hls : l < u.S.length := by omega
  have hdc := h.dbk.cell (k := fn) (by rw [h.dl]; exact hf)
  have hgt1 : ¬ (u.lv : Int) < (l : Int) := by omega
  have hgt2 : ¬ u.lv < l := by omega
  have hne1 : ((l : Int) == (u.lv : Int)) = false := beq_eq_false_iff_ne.2 (by omega)
  have hfn : (fn : Int) < (u.n : Int) := by omega
  have hfew : (N.length : Int) ≤ 8192 := by have := hok.few; have := hok.m1; omega
  rcases h.good rfl fn hf with h0 | ⟨hpos, pt⟩
  rotate_left
  · have FIN := hide (OfL.there h (Below.refl _ _) pt)
    have hb := pt.has
    obtain ⟨r, hr⟩ : ∃ r, D.getD fn 0 - 1 = r := ⟨_, rfl⟩
    rw [hr] at FIN hb
    have hd : D.getD fn 0 = r + 1 := by omega
    rw [hd] at hdc
    have hw : IntKind.i64.wrap (r + 1 - 1) = r := by have h1 := hb.1; have h2 := hb.2; simp [IntKind.wrap, IntKind.bits, IntKind.signed]; omega
    have hpos' : (0 : Int) < r + 1 := by have := hb.1; omega
    rw [hl] at HLV
    clear h hp hdn hok hF hlv hcl hfl hgt heq hl hll hls hpos pt hb hr hd hfew hf
    generalize r + 1 = d at *
    go_enter Try.func75, Try.ntmps75
    go_wp2_with (go_at_call 53; refine HLV.out.mono ?_; rintro e w1 ⟨rfl, hw1⟩; have hw2 := hw1.symm; clear hw1; subst hw2)
    go_ret
    exact FIN.out
  rw [h0] at hdc
  rw [hl] at HLV
  obtain ⟨h2, kz, hn⟩ := hok.node_of_lvl hF hl hls
  have HH := hide h
  have HF := hide hF
  have HFN := hide hf
  have HP := hide (hp l hll hl)
  have HL := hide hl
  have HOK := hide hok
  have HDN := hide hdn
  have HCL := hide hcl
  have HNA := hide hn
  have HLL := hide hll
  obtain ⟨n, hn⟩ : ∃ n : Nat, (n : Int) = u.S.getD l 0 := ⟨(u.S.getD l 0).toNat, by have := (HOK.out.sz.each _ (getD_mem hls)).1; omega⟩
  have hn1 : 1 ≤ n ∧ n ≤ 256 := by have := HOK.out.sz.each _ (getD_mem hls); omega
  obtain ⟨hn0, hn2⟩ := hn1
  have HN := hide hn
  obtain ⟨sb, sc, s0, _, s2, _⟩ := h.ra.fields
  have qs := s2.cell hls
  rw [← hn] at qs
  have hls' : (l : Int) < (u.S.length : Int) := by omega
  have hmk := make_ints n (n : Int) rfl (by omega)
  have y3 : Below w.heap.size w (w.alloc (.cells (zC (List.replicate n 0)).toArray 3)) := al (Below.refl _ _) _
  have R3 := hide (And.intro (RwZ.made w (List.replicate n 0)) y3)
  have HFEW := hide hfew
  clear h hp hdn hok hF hfl hlv hcl hgt heq hl hll h0 hfew s2 hn y3 h2
  go_enter Try.func75, Try.ntmps75
  go_upto_region 9 with (go_at_call 53; refine HLV.out.mono ?_; rintro e w1 ⟨rfl, hw1⟩; have hw2 := hw1.symm; clear hw1; subst hw2)
  clear q0 q1 q2 q3 q4 qs s0 hmk hls' HLV hdc hgt1 hgt2 hne1
  generalize w.alloc (.cells (zC (List.replicate n 0)).toArray 3) = w3 at *
  generalize hob : w.heap.size = ob at *
  have HOB := hide hob
  clear hob
  have I3 : Hid (UI u N Q l (fn : Int) w ob n 0 N Q D [] 0 w3) := by
    have h1 := HOB.out
    refine ⟨HH.out.below (by rw [h1]; exact R3.out.2), ⟨[], by simp⟩, Kept.of_below (by rw [h1]; exact R3.out.2), Gw.refl _ _, fun hp => ?_, fun e => ?_, rfl, by simpa using R3.out.1, .inl ⟨rfl, fun i hi => by omega, rfl⟩⟩
    · have := HH.out.ra.plt hp
      omega
    · have := HH.out.dbk.lt
      omega
  have HEX : Hid (ins u.S u.M N (phU u N (fn : Int)) = expF u.S u.M (ins u.S u.M) N (phU u N (fn : Int)) l) := ins_exp HOK.out hls (phi_hang (c := cfU u) (cfU_q HCL.out) HOK.out HF.out ⟨by omega, by omega⟩ (l := l) (by have := HL.out; simp only [cfU] at *; omega) (by rw [lvl_low (by omega)]; simp only [cfU]; omega))
  clear R3
  go_wp2
  go_loopw [7] (fun x wr => ∃ k : Nat, k ≤ n ∧ x = .int .i64 k ∧ ∃ N' Q' D' ks er, Hid (UI u N Q l (fn : Int) w ob n k N' Q' D' ks er wr)) (fun x _ => n - (RowKit.intOf x).toNat)
  case atStart => exact ⟨0, Nat.zero_le _, rfl, N, Q, D, [], 0, I3⟩
  case round =>
    obtain ⟨k, hk, rfl, N', Q', D', ks, er, I⟩ := hrel
    obtain ⟨q0, q1, q2, q3, q4⟩ := I.out.dc.blk.cells
    obtain ⟨T, hT⟩ := I.out.ext
    by_cases hlt : k < n
    · have hlt' : (k : Int) < n := by omega
      have hcn : (k : Int) < u.S.getD l 0 := by have := HN.out; omega
      have hfl : (l : Int) ≤ lvl u.S N (fn : Int) := by have := HL.out; omega
      have hat := HNA.out.at_
      have hkz : k < kz.length := by have := HNA.out.len; omega
      have K1 := kidD_any I.out.dc.ra (i := ((fn : Int) - 2).toNat) (c := k) (l := (l : Int)) (ks := kz) (by rw [hT, List.getElem?_append_left (at_lt hat)]; exact hat) hkz
      rw [← kidR_node HNA.out (c := k), show ((((fn : Int) - 2).toNat : Nat) : Int) + 2 = (fn : Int) by have := HNA.out.lev; have h9 := HFN.out; have h8 := HL.out; by_cases hh : 2 ≤ (fn : Int); omega; rw [lvl_low hh] at h8; omega] at K1
      have HK1 := hide K1
      have hx1 := kidR_has HOK.out hls HF.out hfl hcn
      have hy1 := kidR_le HOK.out hls HF.out hcn
      have OB : Hid (∀ w6, Kept (Fu u Q') wr w6 → RwZ w6 ob (ks ++ List.replicate (n - k) 0)) := fun w6 k6 => I.out.out.kept k6 (fun hf => by
        rcases hf with h1 | h1 | h1
        · exact I.out.np h1
        · exact I.out.nm h1
        · exact I.out.nd h1)
      have hkl : k < (ks ++ List.replicate (n - k) 0).length := by rw [List.length_append, List.length_replicate, I.out.len]; omega
      rcases I.out.st with ⟨rfl, okk, kf⟩ | ⟨rfl, kf⟩
      · have HPC := hide (HP.out wr N' Q' D' (kidR u.S N l (fn : Int) k) I.out.dc ⟨hx1.1.1, by have := HFN.out; omega⟩ (by rw [hT, lvl_app hx1.1]; exact hx1.2))
        have NX : Hid (∀ r er N2 Q2 D2 w6 w7, DC w6 u N2 Q2 D2 er → (∃ T, N2 = N' ++ T) → Kept (Fu u Q') wr w6 → Gw wr Q' Q2 → ins u.S u.M N' (phU u N' (kidR u.S N l (fn : Int) k)) = (r, er, N2) → ((er = 0 ∧ PtU u N2 (kidR u.S N l (fn : Int) k) r) ∨ (er = 2 ∧ r = 0)) → w7 = w6.setCell ⟨ob, k, none⟩ (.int .i64 r) → UI u N Q l (fn : Int) w ob n (k + 1) N2 Q2 D2 (ks ++ [r]) er w7) :=
          fun r er N2 Q2 D2 w6 w7 a1 a2 a3 a4 a5 a6 a7 => UI.next hls HLL.out HF.out HOK.out hfl HN.out hlt (by rw [HOB.out]; exact Nat.le_refl _) I.out a1 a2 a3 a4 a5 a6 a7
        clear K1 hx1 hy1 hT hcn hfl okk kf hat hkz
        generalize kidR u.S N l (fn : Int) k = x1 at *
        clear q1 q2 q3 q4
        go_wp2_with (first
          | (go_at_call 68; refine HK1.out.mono ?_; rintro e w5 ⟨rfl, hw5⟩; have hw6 := hw5.symm; clear hw5; subst hw6)
          | (go_at_call 75; refine HPC.out.mono ?_; rintro e w6 ⟨r, er, N2, Q2, D2, rfl, m6, e6, k6, p6, in6, ok6⟩; have NX6 := hide (NX.out r er N2 Q2 D2 w6 _ m6 e6 k6 p6 in6 ok6 rfl); have f6 := (OB.out w6 k6).fro k; have q6 := (OB.out w6 k6).cell hkl; clear m6 e6 k6 p6 in6 ok6))
        go_roundw
        case rel => exact ⟨k + 1, by omega, by go_num, _, _, _, _, _, NX6⟩
        case measure => simp [RowKit.intOf]; omega
      · have HEC := hide (of_err (f := kidR u.S N l (fn : Int) k) I.out.dc)
        have NX : Hid (UI u N Q l (fn : Int) w ob n (k + 1) N' Q' D' (ks ++ [kidR u.S N l (fn : Int) k]) 2 (wr.setCell ⟨ob, k, none⟩ (.int .i64 (kidR u.S N l (fn : Int) k)))) := I.out.stay hlt (by rw [HOB.out]; exact Nat.le_refl _) rfl
        have f6 := I.out.out.fro k
        have q6 := I.out.out.cell hkl
        clear K1 hx1 hy1 hT hcn hfl kf hat hkz
        generalize kidR u.S N l (fn : Int) k = x1 at *
        clear q1 q2 q3 q4
        go_wp2_with (first
          | (go_at_call 68; refine HK1.out.mono ?_; rintro e w5 ⟨rfl, hw5⟩; have hw6 := hw5.symm; clear hw5; subst hw6)
          | (go_at_call 75; refine HEC.out.mono ?_; rintro e w5 ⟨rfl, hw5⟩; have hw6 := hw5.symm; clear hw5; subst hw6))
        go_roundw
        case rel => exact ⟨k + 1, by omega, by go_num, _, _, _, _, _, NX⟩
        case measure => simp [RowKit.intOf]; omega
    · have hkn : n = k := by omega
      subst hkn
      have hlt' : ¬ (n : Int) < n := by omega
      rcases I.out.st with ⟨rfl, okk, kf⟩ | ⟨rfl, kf⟩
      rotate_left
      · have FIN : Hid (OfL u N Q (fn : Int) w (.returned (.int .i64 0)) wr) := ⟨0, 2, N', Q', D', rfl, I.out.dc, I.out.ext, I.out.kp, I.out.pp, by rw [HEX.out]; unfold expF; rw [kf, if_neg (show ¬ (2 : Int) = 0 by decide)], .inr ⟨rfl, rfl⟩⟩
        clear kf hT q1 q2 q3 hlt hk
        go_wp2
        go_ret
        exact FIN.out
      have hok5 := I.out.dc.ra.ok
      have len5 : (ks.length : Int) = u.S.getD l 0 := by rw [I.out.len]; exact HN.out
      have hf5 : hasR N' (fn : Int) := by rw [hT]; exact hasR_app HF.out
      have hz5 : hasR N' 0 := ⟨by omega, by omega⟩
      have hm5 : min (lvl u.S N' (fn : Int)) (lvl u.S N' 0) = (l : Int) := by rw [lvl_low (f := 0) (by omega), hT, lvl_app HF.out, HL.out]; omega
      have pt5 : ∀ i, i < ks.length → PtOk u.S N' (fun a _ => a) (fun p => upd p u.lv u.cl) (kidR u.S N' l (fn : Int) i) (kidR u.S N' l 0 i) (ks.getD i 0) := fun i hi => by
        have e1 : kidR u.S N' l (fn : Int) i = kidR u.S N l (fn : Int) i := by rw [hT]; exact kidR_app HOK.out hls HF.out
        rw [e1, kidR_zero hls]
        exact okk i (by rw [← I.out.len]; exact hi)
      have MAY := hide (PtOk.may hok5 hls hf5 hz5 hm5 len5 pt5)
      have hlu := HLL.out
      have ND : Hid (∀ r6 N6, MkP u.S u.M N' (l : Int) ks r6 0 N6 → PtU u N6 (fn : Int) r6 ∧ ∃ T, N6 = N' ++ T) := fun r6 N6 hmk => PtOk.node hok5 (fun _ hp => hp.upd HCL.out) hls hf5 hz5 hm5 (fun p => upd_ne p u.cl (by omega)) len5 pt5 hmk
      have z5 : RwZ wr ob ks := by have := I.out.out; rwa [Nat.sub_self, List.replicate_zero, List.append_nil] at this
      have HMK := hide (I.out.dc.ra.make (l : Int) (some ⟨ob, 0, none⟩) n ks (by rw [I.out.len]; omega) z5.zbk.at)
      rw [I.out.len] at HMK
      have HIN : Hid (∀ r6 er6 N6, MkP u.S u.M N' (l : Int) ks r6 er6 N6 → ins u.S u.M N (phU u N (fn : Int)) = (r6, er6, N6)) := fun r6 er6 N6 hmk => by
        have e : kidsF (ins u.S u.M) N (cuts u.S (phU u N (fn : Int)) l) = (ks, 0, N') := by
          rw [← kf, List.take_of_length_le (by rw [cuts_length]; have := HN.out; omega)]
        rw [HEX.out]
        unfold expF
        rw [e, if_pos rfl]
        exact mkF_of hok5.nod hmk
      clear okk kf hok5 len5 hf5 hz5 hm5 pt5 z5 hlt hk hT hlu q1 q2 q3
      go_upto_region 16 with (go_at_call 22; refine HMK.out.mono ?_; rintro e w6 ⟨r6, er6, N6, rfl, mk6, Q6, ra6, k6, p6, _⟩; have MK6 := hide mk6; have RA6 := hide ra6; have K6 := hide k6; have P6 := hide p6; clear mk6 ra6 k6 p6)
      clear HMK q0 q4
      have her : er6 = 0 ∨ (er6 = 2 ∧ r6 = 0 ∧ N6 = N') := by
        rcases MK6.out with ⟨h1, _⟩ | ⟨_, _, _, h1, _⟩ | ⟨_, _, _, h1, _⟩ | ⟨_, _, _, _, h1, h2, h3⟩ | ⟨_, _, _, _, _, h1, _⟩
        · exact absurd MAY.out h1
        · exact .inl h1
        · exact .inl h1
        · exact .inr ⟨h2, h1, h3⟩
        · exact .inl h1
      have ST : Hid ((er6 = 0 ∧ PtU u N6 (fn : Int) r6) ∨ (er6 = 2 ∧ r6 = 0)) := by
        rcases her with h1 | h1
        · exact .inl ⟨h1, (ND.out _ _ (h1 ▸ MK6.out)).1⟩
        · exact .inr ⟨h1.1, h1.2.1⟩
      have IN6 := hide (HIN.out _ _ _ MK6.out)
      obtain ⟨T6, hT6⟩ : ∃ T, N6 = N' ++ T := by
        rcases her with h1 | h1
        · exact (ND.out _ _ (h1 ▸ MK6.out)).2
        · exact ⟨[], by rw [h1.2.2, List.append_nil]⟩
      subst hT6
      have M6 := hide (I.out.dc.step K6.out RA6.out P6.out)
      clear her MK6 RA6 ND MAY HIN
      have hr6 : 0 ≤ r6 ∧ r6 ≤ 8194 := by
        have o6 := M6.out.ra.ok
        have h1 := o6.few
        have h2 := o6.m1
        rcases ST.out with h5 | h5
        · have h3 := h5.2.has.1
          have h4 := h5.2.has.2
          omega
        · omega
      have hw6 : IntKind.i64.wrap (r6 + 1) = r6 + 1 := by simp [IntKind.wrap, IntKind.bits, IntKind.signed]; omega
      have HR6 := hide hr6
      clear hr6
      have f6 := frozen_of_row w6 u.mm 4 _ _ M6.out.blk
      have c6 := M6.out.blk.cells.2.2.2.2
      have S7 := hide (M6.out.setE (er' := er6) (fun _ => rfl) rfl)
      go_upto_region 17 with fail
      clear f6 c6
      generalize w6.setCell ⟨u.mm, 4, none⟩ (.int .i64 er6) = w7 at *
      have q37 := S7.out.1.blk.cells.2.2.2.1
      have f7 := S7.out.1.dbk.fro fn
      have c7 := S7.out.1.dbk.cell (k := fn) (by rw [S7.out.1.dl]; exact hf)
      have S8 := hide (S7.out.1.push (f := fn) (r := r6) hf rfl (fun e => ⟨HR6.out.1, by
        rcases ST.out with h5 | h5
        · exact h5.2
        · exact absurd (e.symm.trans h5.1) (by decide)⟩))
      have FIN : Hid (OfL u N Q (fn : Int) w (.returned (.int .i64 r6)) (w7.setCell ⟨u.db, fn, none⟩ (.int .i64 (r6 + 1)))) := by
        obtain ⟨T5, hT5⟩ := I.out.ext
        refine ⟨r6, er6, N' ++ T6, Q6, _, rfl, S8.out.1, ⟨T5 ++ T6, by rw [hT5, List.append_assoc]⟩, ((I.out.kp.trans_new K6.out (fun b hb h1 => ?_)).trans_new S7.out.2 (fun b _ e => .inr (.inl e))).trans_new S8.out.2 (fun b _ e => .inr (.inr e)), fun b hb => ?_, IN6.out, ?_⟩
        · rcases I.out.pp b h1 with h2 | h2
          · exact .inl h2
          · omega
        · rcases P6.out b hb with h1 | h1
          · exact I.out.pp b h1
          · exact .inr (Nat.le_trans I.out.kp.size h1)
        · rcases ST.out with h5 | h5
          · exact .inl h5
          · exact .inr h5
      clear S7 S8 K6 M6 P6
      generalize hcd : w7.cell? ⟨u.db, fn, none⟩ = cd at *
      go_wp2
      go_ret
      exact FIN.out
theorem of_any : ∀ (k : Nat) (w : World) (N : List Nd) (Q : Nat → Prop) (D : List Int) (f : Int), DC w u N Q D 0 → (0 ≤ f ∧ f < (u.n : Int)) → (u.S.length : Int) ≤ lvl u.S N f + k → Calls Try.prog 75 #[.pointer (some ⟨u.mm, 0, none⟩), .int .i64 f] w fun e w' => OfL u N Q f w e w' := by
  intro k
  induction k with
  | zero =>
    intro w N Q D f h hf hk
    obtain ⟨fn, rfl⟩ : ∃ fn : Nat, f = (fn : Int) := ⟨f.toNat, by omega⟩
    exact of_step h (by omega) (fun l hl hm => by have := h.lv; omega)
  | succ k ih =>
    intro w N Q D f h hf hk
    obtain ⟨fn, rfl⟩ : ∃ fn : Nat, f = (fn : Int) := ⟨f.toNat, by omega⟩
    exact of_step h (by omega) (fun l hl hm w' N' Q' D' f' h' hf' h1 => ih w' N' Q' D' f' h' hf' (by omega))
end
end Go.Proofs.Ytaafeflbanoncaa
