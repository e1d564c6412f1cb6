/-
  The document's apply by its contract. No condition.
-/
import Derived.Test.YtaafeflbanoncaaP30
import Derived.Deep.DeepCutAuto
namespace Go.Proofs.Ytaafeflbanoncaa
open Go.RowKit Go.Lib Go.Maps

theorem Try.info133 : (Try.prog.info? 133).map (fun i => (i.zero, i.size, i.bytes)) = some (some (.agg #[.int .i64 0, .int .i64 0]), 2, 16) := by kernel_rfl
section
variable {w : World} {d : Df} {B : Nat} {N : List Nd} {Q : Nat → Prop} {LR : Nat → List (Int × Int)} {V : List Value}
theorem ApL.there {f g r : Int} (h : DM w d B N Q LR V 0) (p : PtOk d.S N (opD d.what) (fun p => p) f g r) : ApL d B N Q LR V f g w (.returned (.int .i64 r)) w :=
  ⟨r, 0, N, Q, LR, V, rfl, h, ⟨[], by simp⟩, Kept.refl _ _, Gw.refl _ _, Gw.refl _ _, ins_rep h.ra.ok ⟨p.has, p.say⟩, .inl ⟨rfl, p, fun _ _ _ he => .inl he⟩⟩
theorem leaf_pt {f g : Int} (hf : f = 0 ∨ f = 1) (hg : g = 0 ∨ g = 1) : PtOk d.S N (opD d.what) (fun p => p) f g (leafZ d.what f g) := by
  have h1 := fun p => leafZ_rep (N := N) (what := d.what) (p := p) hf hg
  have h2 := (h1 (fun _ => 0)).1
  refine ⟨⟨by omega, by omega⟩, fun p _ => (h1 p).2, ?_⟩
  rw [lvl_low (f := f) (by omega), lvl_low (f := g) (by omega), lvl_low (f := leafZ d.what f g) (by omega)]
  omega
set_option maxRecDepth 100000 in
set_option maxHeartbeats 4000000 in
theorem apply_step {fn : Nat} {g : Int} (h : DM w d B N Q LR V 0) (hB : B ≤ w.heap.size) (hf : fn < d.n) (hg : 0 ≤ g ∧ g < (d.n : Int))
    (hp : ∀ (l : Nat), l < d.S.length → min (lvl d.S N (fn : Int)) (lvl d.S N g) = (l : Int) → ∀ w N Q LR V f g, DM w d B N Q LR V 0 → B ≤ w.heap.size → (0 ≤ f ∧ f < (d.n : Int)) → (0 ≤ g ∧ g < (d.n : Int)) → (l : Int) < lvl d.S N f → (l : Int) < lvl d.S N g → Calls Try.prog 80 #[.pointer (some ⟨d.mm, 0, none⟩), .int .i64 f, .int .i64 g] w fun e w' => ApL d B N Q LR V f g w e w') :
    Calls Try.prog 80 #[.pointer (some ⟨d.mm, 0, none⟩), .int .i64 (fn : Int), .int .i64 g] w fun e w' => ApL d B N Q LR V (fn : Int) g w e w' := by
  by_cases hlow : (fn : Int) < 2 ∧ g < 2
  · obtain ⟨l1, l2⟩ := hlow
    have h1 : (fn : Int) = 0 ∨ (fn : Int) = 1 := by omega
    have h2 : g = 0 ∨ g = 1 := by omega
    have HLF := hide (leaf_any h.blk h1 h2)
    have FIN := hide (ApL.there h (leaf_pt h1 h2))
    clear h hp h1 h2 hf hg
    generalize (fn : Int) = f at *
    go_enter Try.func80, Try.ntmps80
    go_wp2_with (go_at_call 82; refine HLF.out.mono ?_; rintro e w1 ⟨rfl, hw1⟩; have hw2 := hw1.symm; clear hw1; subst hw2)
    go_ret
    exact FIN.out
  have hdn := h.dn
  have hok := h.ra.ok
  have hF : hasR N (fn : Int) := ⟨by omega, by omega⟩
  have hG : hasR N g := ⟨hg.1, by omega⟩
  have hfl := hok.lvl_le hF
  have hgl := hok.lvl_le hG
  have hlt : min (lvl d.S N (fn : Int)) (lvl d.S N g) < (d.S.length : Int) := by
    by_cases e : (fn : Int) < 2
    · obtain ⟨l, ks, hn⟩ := hok.ndAt (f := g) (by omega) hG.2
      have := hn.lev
      have := hn.lt
      omega
    · obtain ⟨l, ks, hn⟩ := hok.ndAt (f := (fn : Int)) (by omega) hF.2
      have := hn.lev
      have := hn.lt
      omega
  obtain ⟨l, hl⟩ : ∃ l : Nat, min (lvl d.S N (fn : Int)) (lvl d.S N g) = (l : Int) := ⟨(min (lvl d.S N (fn : Int)) (lvl d.S N g)).toNat, by omega⟩
  have hls : l < d.S.length := by omega
  have HH := hide h
  have HF := hide hF
  have HG := hide hG
  have HGN := hide hg
  have HFN := hide hf
  have HP := hide (hp l hls hl)
  have HL := hide hl
  have HOK := hide hok
  have HDN := hide hdn
  have HB := hide hB
  have HFD := hide (found_any (g := g) h hf)
  clear h hp hdn hok hF hG hfl hgl hlt hl hB
  go_enter Try.func80, Try.ntmps80
  go_upto_region 1 with fail
  go_cut [22] (fun v wx => v = .bool false ∧ Hid (wx = w))
  case first =>
    by_cases e : (fn : Int) < 2
    · have e2 : ¬ g < 2 := fun h => hlow ⟨e, h⟩
      clear hlow
      go_wp2
      go_meet
      exact ⟨rfl, rfl⟩
    · clear hlow
      go_wp2
      go_meet
      exact ⟨rfl, rfl⟩
  obtain ⟨rfl, hwc⟩ := hcut
  have hwc2 := hwc.out.symm
  clear hwc hlow
  subst hwc2
  go_upto_region 4 with (go_at_call 83; refine HFD.out.mono ?_; rintro e w1 ⟨r, is, rfl, hw1, y1, y2⟩; have hw2 := hw1.symm; clear hw1; subst hw2; have Y1 := hide y1; have Y2 := hide y2; clear y1 y2)
  clear HFD
  cases is with
  | true =>
    have FIN := hide (ApL.there HH.out (HH.out.good rfl fn hf _ (Y1.out rfl)).2.2)
    go_wp2
    go_ret
    exact FIN.out
  | false =>
    have NIN := hide (Y2.out rfl)
    clear Y1 Y2
    go_upto_region 6 with fail
    have M1 := hide (HH.out.below (Below.refl _ w).drew)
    have X1 : Hid (Below w.heap.size w w.drew) := (Below.refl _ w).drew
    go_cut [9] (fun v wx => v = .int .i64 (l : Int) ∧ Hid (wx = w.drew))
    case first =>
      refine wp_unt (S := fun V => V = w.drew) 13 (by kernel_rfl) ?_
      generalize w.drew = w4 at *
      have q3 := M1.out.blk.cells.1
      have L1 := hide (M1.out.ra.level (fn : Int))
      have L2 := hide (M1.out.ra.level g)
      obtain ⟨x, hx⟩ : ∃ x, lvl d.S N (fn : Int) = x := ⟨_, rfl⟩
      obtain ⟨y, hy⟩ : ∃ y, lvl d.S N g = y := ⟨_, rfl⟩
      rw [hx] at L1
      rw [hy] at L2
      have hxy : min x y = (l : Int) := by rw [← hx, ← hy]; exact HL.out
      clear hx hy
      refine UntH.take (i := 0) (some 36) rfl rfl (by kernel_rfl) (by kernel_rfl) (by kernel_rfl) (by kernel_rfl) (fun _ _ _ _ h => h) (by rfl) rfl ?_
      apply Exists.intro
      refine ⟨fun w' hw' => ?_, ?_⟩
      · subst hw'
        go_simp
        first | done | rfl
      try simp only [Act.put, List.setIfInBounds_toArray, List.set_cons_zero, List.set_cons_succ]
      refine UntH.take (i := 1) (some 37) rfl rfl (by kernel_rfl) (by kernel_rfl) (by kernel_rfl) (by kernel_rfl) (fun _ _ _ _ h => h) (by rfl) rfl ?_
      apply Exists.intro
      refine ⟨fun w' hw' => ?_, ?_⟩
      · subst hw'
        go_simp
        first | done | rfl
      try simp only [Act.put, List.setIfInBounds_toArray, List.set_cons_zero, List.set_cons_succ]
      refine UntH.take (i := 2) (some 38) rfl rfl (by kernel_rfl) (by kernel_rfl) (by kernel_rfl) (by kernel_rfl) (fun _ _ _ _ h => h) (by rfl) rfl ?_
      apply Exists.intro
      refine ⟨fun w' hw' => ?_, ?_⟩
      · subst hw'
        go_simp
        first | done | rfl
      try simp only [Act.put, List.setIfInBounds_toArray, List.set_cons_zero, List.set_cons_succ]
      refine UntH.take (i := 3) (some 39) rfl rfl (by kernel_rfl) (by kernel_rfl) (by kernel_rfl) (by kernel_rfl) (fun _ _ _ _ h => h) (by rfl) rfl ?_
      apply Exists.intro
      refine ⟨fun w' hw' => ?_, ?_⟩
      · subst hw'
        go_simp
        first | done | rfl
      try simp only [Act.put, List.setIfInBounds_toArray, List.set_cons_zero, List.set_cons_succ]
      refine UntH.take (i := 4) (some 40) rfl rfl (by kernel_rfl) (by kernel_rfl) (by kernel_rfl) (by kernel_rfl) (fun _ _ _ _ h => h) (by rfl) rfl ?_
      apply Exists.intro
      refine ⟨fun w' hw' => ?_, ?_⟩
      · subst hw'
        go_simp
        first | done | rfl
      try simp only [Act.put, List.setIfInBounds_toArray, List.set_cons_zero, List.set_cons_succ]
      refine UntH.take (i := 6) (some 42) rfl rfl (by kernel_rfl) (by kernel_rfl) (by kernel_rfl) (by kernel_rfl) (fun _ _ _ _ h => h) (by rfl) rfl ?_
      apply Exists.intro
      refine ⟨fun w' hw' => ?_, ?_⟩
      · subst hw'
        go_simp
        first | done | rfl
      try simp only [Act.put, List.setIfInBounds_toArray, List.set_cons_zero, List.set_cons_succ]
      refine UntH.take (i := 7) (some 43) rfl rfl (by kernel_rfl) (by kernel_rfl) (by kernel_rfl) (by kernel_rfl) (fun _ _ _ _ h => h) (by rfl) rfl ?_
      apply Exists.intro
      refine ⟨fun w' hw' => ?_, ?_⟩
      · subst hw'
        go_simp
        first | done | rfl
      try simp only [Act.put, List.setIfInBounds_toArray, List.set_cons_zero, List.set_cons_succ]
      refine UntH.take (i := 8) (some 44) rfl rfl (by kernel_rfl) (by kernel_rfl) (by kernel_rfl) (by kernel_rfl) (fun _ _ _ _ h => h) (by rfl) rfl ?_
      apply Exists.intro
      refine ⟨fun w' hw' => ?_, ?_⟩
      · subst hw'
        go_simp
        first | done | rfl
      try simp only [Act.put, List.setIfInBounds_toArray, List.set_cons_zero, List.set_cons_succ]
      refine UntH.take (i := 9) (some 45) rfl rfl (by kernel_rfl) (by kernel_rfl) (by kernel_rfl) (by kernel_rfl) (fun _ _ _ _ h => h) (by rfl) rfl ?_
      apply Exists.intro
      refine ⟨fun w' hw' => ?_, ?_⟩
      · subst hw'
        go_simp
        first | done | rfl
      try simp only [Act.put, List.setIfInBounds_toArray, List.set_cons_zero, List.set_cons_succ]
      refine UntH.take (i := 10) (some 46) rfl rfl (by kernel_rfl) (by kernel_rfl) (by kernel_rfl) (by kernel_rfl) (fun _ _ _ _ h => h) (by rfl) rfl ?_
      apply Exists.intro
      refine ⟨fun w' hw' => ?_, ?_⟩
      · subst hw'
        go_simp
        first | done | rfl
      try simp only [Act.put, List.setIfInBounds_toArray, List.set_cons_zero, List.set_cons_succ]
      refine UntH.step (i := 5) (by kernel_rfl) rfl (fun K hK => ?_)
      go_simp
      refine L1.out.mono ?_
      rintro e w5 ⟨rfl, hw5⟩
      have hw6 := hw5.symm
      clear hw5
      subst hw6
      go_simp
      refine hK _ _ rfl ?_
      clear hK K L1
      refine UntH.step (i := 11) (by kernel_rfl) rfl (fun K hK => ?_)
      go_simp
      refine L2.out.mono ?_
      rintro e w5 ⟨rfl, hw5⟩
      have hw6 := hw5.symm
      clear hw5
      subst hw6
      go_simp
      refine hK _ _ rfl ?_
      clear hK K L2 q3
      by_cases hlt : y < x
      · have e2 : y = (l : Int) := by omega
        subst e2
        clear hxy
        refine UntH.step (i := 12) (by kernel_rfl) rfl (fun K hK => ?_)
        go_simp
        refine hK _ _ rfl ?_
        clear hK K
        refine UntH.last (by kernel_rfl) rfl (by kernel_rfl) (by kernel_rfl) (fun K hK => ?_)
        go_simp
        refine hK _ _ ?_
        clear hK K
        go_wp2
        go_meet
        exact ⟨rfl, rfl⟩
      · have e2 : x = (l : Int) := by omega
        subst e2
        clear hxy
        refine UntH.step (i := 12) (by kernel_rfl) rfl (fun K hK => ?_)
        go_simp
        refine hK _ _ rfl ?_
        clear hK K
        refine UntH.last (by kernel_rfl) rfl (by kernel_rfl) (by kernel_rfl) (fun K hK => ?_)
        go_simp
        refine hK _ _ ?_
        clear hK K
        go_wp2
        go_meet
        exact ⟨rfl, rfl⟩
    obtain ⟨rfl, hwc⟩ := hcut
    have hwc2 := hwc.out
    clear hwc
    generalize w.drew = w1 at *
    have hwc3 := hwc2.symm
    clear hwc2
    subst hwc3
    have HB1 : Hid (B ≤ w1.heap.size) := Nat.le_trans HB.out X1.out.size
    obtain ⟨n, hn⟩ : ∃ n : Nat, (n : Int) = d.S.getD l 0 := ⟨(d.S.getD l 0).toNat, by have := (HOK.out.sz.each _ (getD_mem hls)).1; omega⟩
    have hn1 : 1 ≤ n ∧ n ≤ 256 := by have := HOK.out.sz.each _ (getD_mem hls); omega
    obtain ⟨hn0, hn2⟩ := hn1
    have HN := hide hn
    obtain ⟨sb, sc, s0, _, s2, _⟩ := M1.out.ra.fields
    have q0 := M1.out.blk.cells.1
    have q1 := s2.cell hls
    rw [← hn] at q1
    have hls' : (l : Int) < (d.S.length : Int) := by omega
    have hmk := make_ints n (n : Int) rfl (by omega)
    have y3 : Below w1.heap.size w1 (w1.alloc (.cells (zC (List.replicate n 0)).toArray 3)) := al (Below.refl _ _) _
    have R3 := hide (And.intro (RwZ.made w1 (List.replicate n 0)) y3)
    clear s2 hn y3
    go_upto_region 9 with fail
    clear q0 q1 s0 hmk hls'
    generalize w1.alloc (.cells (zC (List.replicate n 0)).toArray 3) = w3 at *
    generalize hob : w1.heap.size = ob at *
    have HOB := hide hob
    clear hob
    have I3 : Hid (ApI d B N Q LR V l (fn : Int) g w1 ob n 0 N Q LR V [] 0 w3) := by
      have h1 := HOB.out
      refine ⟨M1.out.below (by rw [h1]; exact R3.out.2), ⟨[], by simp⟩, Kept.of_below (by rw [h1]; exact R3.out.2), Gw.refl _ _, Gw.refl _ _, fun hp => ?_, rfl, by simpa using R3.out.1, .inl ⟨rfl, fun i hi => by omega, rfl, fun _ _ _ he => .inl he⟩⟩
      have := M1.out.ra.plt hp
      omega
    have HEX : Hid (ins d.S d.M N (phD d N (fn : Int) g) = expF d.S d.M (ins d.S d.M) N (phD d N (fn : Int) g) l) := ins_exp HOK.out hls (phi_hang (c := cfD d) (cfD_q d) HOK.out HF.out HG.out (l := l) (by have := HL.out; simp only [cfD] at *; omega) (by have := HL.out; simp only [cfD] at *; omega))
    have KW : Hid (Kept (Fd d Q V) w w1) := Kept.of_below X1.out
    clear R3
    go_wp2
    go_loopw [12] (fun x wr => ∃ k : Nat, k ≤ n ∧ x = .int .i64 k ∧ ∃ N' Q' LR' V' ks er, Hid (ApI d B N Q LR V l (fn : Int) g w1 ob n k N' Q' LR' V' ks er wr)) (fun x _ => n - (RowKit.intOf x).toNat)
    case atStart => exact ⟨0, Nat.zero_le _, rfl, N, Q, LR, V, [], 0, I3⟩
    case round =>
      obtain ⟨k, hk, rfl, N', Q', LR', V', ks, er, I⟩ := hrel
      obtain ⟨q0, q1, q2, q3⟩ := I.out.dm.blk.cells
      rcases I.out.st with ⟨rfl, okk, kf, ne⟩ | ⟨rfl, kf⟩
      · by_cases hlt : k < n
        · have hlt' : (k : Int) < n := by omega
          have hfl : (l : Int) ≤ lvl d.S N (fn : Int) ∧ (l : Int) ≤ lvl d.S N g := by have := HL.out; omega
          have hcn : (k : Int) < d.S.getD l 0 := by have := HN.out; omega
          obtain ⟨T, hT⟩ := I.out.ext
          have hx1 := kidR_has HOK.out hls HF.out hfl.1 hcn
          have hx2 := kidR_has HOK.out hls HG.out hfl.2 hcn
          have hy1 := kidR_le HOK.out hls HF.out hcn
          have hy2 := kidR_le HOK.out hls HG.out hcn
          have K1 := kidM_any I.out.dm.ra I.out.dm.blk (f := (fn : Int)) (l := l) (c := k) (by rw [hT]; exact hasR_app HF.out) hls (by rw [hT, lvl_app HF.out]; exact hfl.1) hcn
          have K2 := kidM_any I.out.dm.ra I.out.dm.blk (f := g) (l := l) (c := k) (by rw [hT]; exact hasR_app HG.out) hls (by rw [hT, lvl_app HG.out]; exact hfl.2) hcn
          have e1 : kidR d.S N' l (fn : Int) k = kidR d.S N l (fn : Int) k := by rw [hT]; exact kidR_app HOK.out hls HF.out
          have e2 : kidR d.S N' l g k = kidR d.S N l g k := by rw [hT]; exact kidR_app HOK.out hls HG.out
          rw [e1] at K1
          rw [e2] at K2
          have HK1 := hide K1
          have HK2 := hide K2
          have HPC := hide (HP.out wr N' Q' LR' V' (kidR d.S N l (fn : Int) k) (kidR d.S N l g k) I.out.dm (by have h1 := HB1.out; have h2 := HOB.out; have h3 := I.out.kp.size; omega) ⟨hx1.1.1, by have := HFN.out; omega⟩ ⟨hx2.1.1, by have := HGN.out; omega⟩ (by rw [hT, lvl_app hx1.1]; exact hx1.2) (by rw [hT, lvl_app hx2.1]; exact hx2.2))
          have NX : Hid (∀ r er N2 Q2 LR2 V2 w6 w7, DM w6 d B N2 Q2 LR2 V2 er → (∃ T, N2 = N' ++ T) → Kept (Fd d Q' V') wr w6 → Gw wr Q' Q2 → Gw wr (OwV d V') (OwV d V2) → ins d.S d.M N' (phD d N' (kidR d.S N l (fn : Int) k) (kidR d.S N l g k)) = (r, er, N2) → ((er = 0 ∧ PtOk d.S N2 (opD d.what) (fun p => p) (kidR d.S N l (fn : Int) k) (kidR d.S N l g k) r ∧ NewE d N' LR' LR2 (min (lvl d.S N' (kidR d.S N l (fn : Int) k)) (lvl d.S N' (kidR d.S N l g k)))) ∨ (er = 2 ∧ r = 0)) → w7 = w6.setCell ⟨ob, k, none⟩ (.int .i64 r) → ApI d B N Q LR V l (fn : Int) g w1 ob n (k + 1) N2 Q2 LR2 V2 (ks ++ [r]) er w7) :=
            fun r er N2 Q2 LR2 V2 w6 w7 a1 a2 a3 a4 a5 a6 a7 a8 => ApI.next hls HF.out HG.out HOK.out hfl.1 hfl.2 HN.out hlt (by rw [HOB.out]; exact Nat.le_refl _) HDN.out I.out a1 a2 a3 a4 a5 a6 a7 a8
          have OB : Hid (∀ w6, Kept (Fd d Q' V') wr w6 → RwZ w6 ob (ks ++ List.replicate (n - k) 0)) := fun w6 k6 => by
            obtain ⟨d1, d2, d3⟩ := I.out.out.notDM I.out.dm
            exact I.out.out.kept k6 (fun hf => by
              rcases hf with h1 | h1 | h1 | h1
              · exact I.out.np h1
              · exact d1 h1
              · exact d2 h1
              · exact d3 h1)
          have hkl : k < (ks ++ List.replicate (n - k) 0).length := by rw [List.length_append, List.length_replicate, I.out.len]; omega
          clear K1 K2 e1 e2 hx1 hx2 hy1 hy2 hT hcn hfl okk kf ne
          generalize kidR d.S N l (fn : Int) k = x1 at *
          generalize kidR d.S N l g k = x2 at *
          go_upto_region 13 with (go_at_call 84; refine HK1.out.mono ?_; rintro e w5 ⟨rfl, hw5⟩; have hw6 := hw5.symm; clear hw5; subst hw6)
          go_upto_region 14 with (go_at_call 84; refine HK2.out.mono ?_; rintro e w5 ⟨rfl, hw5⟩; have hw6 := hw5.symm; clear hw5; subst hw6)
          clear HK1 HK2 q0 q1 q2 q3
          go_wp2_with (go_at_call 80; refine HPC.out.mono ?_; rintro e w6 ⟨r, er, N2, Q2, LR2, V2, rfl, m6, e6, k6, p6, o6, in6, ok6⟩; have NX6 := hide (NX.out r er N2 Q2 LR2 V2 w6 _ m6 e6 k6 p6 o6 in6 ok6 rfl); have f6 := (OB.out w6 k6).fro k; have q6 := (OB.out w6 k6).cell hkl; clear m6 e6 k6 p6 o6 in6 ok6)
          go_roundw
          case rel => exact ⟨k + 1, by omega, by go_num, _, _, _, _, _, _, NX6⟩
          case measure => simp [RowKit.intOf]; omega
        · have hkn : n = k := by omega
          subst hkn
          have hok5 := I.out.dm.ra.ok
          obtain ⟨T5, hT5⟩ := I.out.ext
          have len5 : (ks.length : Int) = d.S.getD l 0 := by rw [I.out.len]; exact HN.out
          have hf5 : hasR N' (fn : Int) := by rw [hT5]; exact hasR_app HF.out
          have hg5 : hasR N' g := by rw [hT5]; exact hasR_app HG.out
          have hm5 : min (lvl d.S N' (fn : Int)) (lvl d.S N' g) = (l : Int) := by rw [hT5, lvl_app HF.out, lvl_app HG.out]; exact HL.out
          have pt5 : ∀ i, i < ks.length → PtOk d.S N' (opD d.what) (fun p => p) (kidR d.S N' l (fn : Int) i) (kidR d.S N' l g i) (ks.getD i 0) := fun i hi => by
            have e1 : kidR d.S N' l (fn : Int) i = kidR d.S N l (fn : Int) i := by rw [hT5]; exact kidR_app HOK.out hls HF.out
            have e2 : kidR d.S N' l g i = kidR d.S N l g i := by rw [hT5]; exact kidR_app HOK.out hls HG.out
            rw [e1, e2]
            exact okk i (by rw [← I.out.len]; exact hi)
          have MAY := hide (PtOk.may hok5 hls hf5 hg5 hm5 len5 pt5)
          have ND : Hid (∀ r6 N6, MkP d.S d.M N' (l : Int) ks r6 0 N6 → PtOk d.S N6 (opD d.what) (fun p => p) (fn : Int) g r6 ∧ ∃ T, N6 = N' ++ T) := fun r6 N6 hmk => PtOk.node hok5 (fun _ hp => hp) hls hf5 hg5 hm5 (fun _ => rfl) len5 pt5 hmk
          have z5 : RwZ wr ob ks := by have := I.out.out; rwa [Nat.sub_self, List.replicate_zero, List.append_nil] at this
          have HMK := hide (I.out.dm.ra.make (l : Int) (some ⟨ob, 0, none⟩) n ks (by rw [I.out.len]; omega) z5.zbk.at)
          rw [I.out.len] at HMK
          have HIN : Hid (∀ r6 er6 N6, MkP d.S d.M N' (l : Int) ks r6 er6 N6 → ins d.S d.M N (phD d N (fn : Int) g) = (r6, er6, N6)) := fun r6 er6 N6 hmk => by
            have e : kidsF (ins d.S d.M) N (cuts d.S (phD d N (fn : Int) g) l) = (ks, 0, N') := by
              rw [← kf, List.take_of_length_le (by rw [cuts_length]; have := HN.out; omega)]
            rw [HEX.out]
            unfold expF
            rw [e, if_pos rfl]
            exact mkF_of hok5.nod hmk
          have NEW : Hid (∀ x ∈ LR' fn, x.1 ≠ g) := fun x hx e => by
            rcases ne fn hf x hx with h1 | h1
            · exact NIN.out x h1 e
            · rw [e] at h1
              have := HL.out
              omega
          have NE : Hid (NewE d N LR LR' ((l : Int) + 1)) := ne
          have hq3 : ((0 : Int) == 0) = true := rfl
          have hlt' : ¬ (n : Int) < n := by omega
          clear okk kf ne hok5 len5 hf5 hg5 hm5 pt5 z5 hlt hk hT5
          go_upto_region 18 with (go_at_call 22; refine HMK.out.mono ?_; rintro e w6 ⟨r6, er6, N6, rfl, mk6, Q6, ra6, k6, p6, _⟩; have MK6 := hide mk6; have RA6 := hide ra6; have K6 := hide k6; have P6 := hide p6; clear mk6 ra6 k6 p6)
          clear HMK q0 q1 q2 q3
          have her : er6 = 0 ∨ (er6 = 2 ∧ r6 = 0 ∧ N6 = N') := by
            rcases MK6.out with ⟨h1, _⟩ | ⟨_, _, _, h1, _⟩ | ⟨_, _, _, h1, _⟩ | ⟨_, _, _, _, h1, h2, h3⟩ | ⟨_, _, _, _, _, h1, _⟩
            · exact absurd MAY.out h1
            · exact .inl h1
            · exact .inl h1
            · exact .inr ⟨h2, h1, h3⟩
            · exact .inl h1
          have ST : Hid ((er6 = 0 ∧ PtOk d.S N6 (opD d.what) (fun p => p) (fn : Int) g r6) ∨ (er6 = 2 ∧ r6 = 0)) := by
            rcases her with h1 | h1
            · exact .inl ⟨h1, (ND.out _ _ (h1 ▸ MK6.out)).1⟩
            · exact .inr ⟨h1.1, h1.2.1⟩
          have IN6 := hide (HIN.out _ _ _ MK6.out)
          obtain ⟨T6, hT6⟩ : ∃ T, N6 = N' ++ T := by
            rcases her with h1 | h1
            · exact (ND.out _ _ (h1 ▸ MK6.out)).2
            · exact ⟨[], by rw [h1.2.2, List.append_nil]⟩
          subst hT6
          have M6 := hide (I.out.dm.step K6.out RA6.out P6.out)
          clear her MK6 RA6 ND MAY HIN
          have f6 := frozen_of_row w6 d.mm 3 _ _ M6.out.blk
          have c6 := M6.out.blk.cells.2.2.2
          have FEW := hide (M6.out.few rfl hf)
          have S7 := hide (M6.out.setE (er' := er6) (fun _ => rfl) rfl)
          go_upto_region 19 with fail
          clear f6 c6
          generalize w6.setCell ⟨d.mm, 3, none⟩ (.int .i64 er6) = w7 at *
          have yd : Below w7.heap.size w7 w7.drew := (Below.refl _ _).drew
          have M8 := hide (S7.out.1.below yd)
          have KW8 : Hid (Kept (Fd d Q V) w w7.drew) := (((KW.out.trans I.out.kp).trans_new K6.out (fun b hb h1 => by
              rcases I.out.pp b h1 with h2 | h2
              · exact .inl h2
              · have := KW.out.size
                omega)).trans_new S7.out.2 (fun b _ e => .inr (.inl e))).drew
          have KS8 : Hid (w.heap.size ≤ wr.heap.size ∧ wr.heap.size ≤ w7.drew.heap.size) := ⟨Nat.le_trans KW.out.size I.out.kp.size, Nat.le_trans (Nat.le_trans K6.out.size S7.out.2.size) yd.size⟩
          clear yd S7 M6 K6
          obtain ⟨ao, cap, hv, _⟩ := own_shape (M8.out.row fn hf)
          have HV := hide hv
          have OW := hide (M8.out.row fn hf)
          rw [hv] at OW
          have HS8 : Hid (w7.drew.cell? ⟨d.mm, 2, none⟩ = some (.slice (some ⟨d.lb, 0, none⟩) d.n d.n) ∧ w7.drew.cell? ⟨d.lb, fn, none⟩ = some (.slice ao (LR' fn).length cap)) := ⟨M8.out.blk.cells.2.2.1, by rw [← hv]; exact M8.out.lbc hf⟩
          clear hv
          have hf' : (fn : Int) < (d.n : Int) := by omega
          obtain ⟨i133, hi, hz0, hz1, hz2⟩ := info_parts Try.info133
          obtain ⟨m, hm⟩ : ∃ m, (LR' fn).length = m := ⟨_, rfl⟩
          rw [hm] at HS8 OW FEW HV
          have HM := hide hm
          clear hm
          refine wp_unt (S := fun V => V.cell? ⟨d.mm, 2, none⟩ = some (.slice (some ⟨d.lb, 0, none⟩) d.n d.n) ∧ V.cell? ⟨d.lb, fn, none⟩ = some (.slice ao m cap)) 18 (by kernel_rfl) ?_
          generalize w7.drew = w8 at *
          refine UntH.take (i := 0) (some 109) rfl rfl (by kernel_rfl) (by kernel_rfl) (by kernel_rfl) (by kernel_rfl) (fun _ _ _ _ h => h) (by rfl) HS8.out ?_
          apply Exists.intro
          refine ⟨fun w' hw' => ?_, ?_⟩
          · (obtain ⟨q0, q1⟩ := hw')
            go_simp
            first | done | rfl
          try simp only [Act.put, List.setIfInBounds_toArray, List.set_cons_zero, List.set_cons_succ]
          refine UntH.take (i := 1) (some 110) rfl rfl (by kernel_rfl) (by kernel_rfl) (by kernel_rfl) (by kernel_rfl) (fun _ _ _ _ h => h) (by rfl) HS8.out ?_
          apply Exists.intro
          refine ⟨fun w' hw' => ?_, ?_⟩
          · (obtain ⟨q0, q1⟩ := hw')
            go_simp
            first | done | rfl
          try simp only [Act.put, List.setIfInBounds_toArray, List.set_cons_zero, List.set_cons_succ]
          refine UntH.take (i := 2) (some 111) rfl rfl (by kernel_rfl) (by kernel_rfl) (by kernel_rfl) (by kernel_rfl) (fun _ _ _ _ h => h) (by rfl) HS8.out ?_
          apply Exists.intro
          refine ⟨fun w' hw' => ?_, ?_⟩
          · (obtain ⟨q0, q1⟩ := hw')
            go_simp
            first | done | rfl
          try simp only [Act.put, List.setIfInBounds_toArray, List.set_cons_zero, List.set_cons_succ]
          refine UntH.take (i := 3) (some 112) rfl rfl (by kernel_rfl) (by kernel_rfl) (by kernel_rfl) (by kernel_rfl) (fun _ _ _ _ h => h) (by rfl) HS8.out ?_
          apply Exists.intro
          refine ⟨fun w' hw' => ?_, ?_⟩
          · (obtain ⟨q0, q1⟩ := hw')
            go_simp
            first | done | rfl
          try simp only [Act.put, List.setIfInBounds_toArray, List.set_cons_zero, List.set_cons_succ]
          refine UntH.take (i := 4) (some 113) rfl rfl (by kernel_rfl) (by kernel_rfl) (by kernel_rfl) (by kernel_rfl) (fun _ _ _ _ h => h) (by rfl) HS8.out ?_
          apply Exists.intro
          refine ⟨fun w' hw' => ?_, ?_⟩
          · (obtain ⟨q0, q1⟩ := hw')
            go_simp
            first | done | rfl
          try simp only [Act.put, List.setIfInBounds_toArray, List.set_cons_zero, List.set_cons_succ]
          refine UntH.take (i := 5) (some 114) rfl rfl (by kernel_rfl) (by kernel_rfl) (by kernel_rfl) (by kernel_rfl) (fun _ _ _ _ h => h) (by rfl) HS8.out ?_
          apply Exists.intro
          refine ⟨fun w' hw' => ?_, ?_⟩
          · (obtain ⟨q0, q1⟩ := hw')
            go_simp
            first | done | rfl
          try simp only [Act.put, List.setIfInBounds_toArray, List.set_cons_zero, List.set_cons_succ]
          refine UntH.take (i := 6) (some 115) rfl rfl (by kernel_rfl) (by kernel_rfl) (by kernel_rfl) (by kernel_rfl) (fun _ _ _ _ h => h) (by rfl) HS8.out ?_
          apply Exists.intro
          refine ⟨fun w' hw' => ?_, ?_⟩
          · (obtain ⟨q0, q1⟩ := hw')
            go_simp
            first | done | rfl
          try simp only [Act.put, List.setIfInBounds_toArray, List.set_cons_zero, List.set_cons_succ]
          refine UntH.take (i := 7) (some 116) rfl rfl (by kernel_rfl) (by kernel_rfl) (by kernel_rfl) (by kernel_rfl) (fun _ _ _ _ h => h) (by rfl) HS8.out ?_
          apply Exists.intro
          refine ⟨fun w' hw' => ?_, ?_⟩
          · (obtain ⟨q0, q1⟩ := hw')
            go_simp
            first | done | rfl
          try simp only [Act.put, List.setIfInBounds_toArray, List.set_cons_zero, List.set_cons_succ]
          refine UntH.take (i := 8) (some 117) rfl rfl (by kernel_rfl) (by kernel_rfl) (by kernel_rfl) (by kernel_rfl) (fun _ _ _ _ h => h) (by rfl) HS8.out ?_
          apply Exists.intro
          refine ⟨fun w' hw' => ?_, ?_⟩
          · (obtain ⟨q0, q1⟩ := hw')
            go_simp
            first | done | rfl
          try simp only [Act.put, List.setIfInBounds_toArray, List.set_cons_zero, List.set_cons_succ]
          refine UntH.take (i := 9) (some 118) rfl rfl (by kernel_rfl) (by kernel_rfl) (by kernel_rfl) (by kernel_rfl) (fun _ _ _ _ h => h) (by rfl) HS8.out ?_
          apply Exists.intro
          refine ⟨fun w' hw' => ?_, ?_⟩
          · (obtain ⟨q0, q1⟩ := hw')
            go_simp
            first | done | rfl
          try simp only [Act.put, List.setIfInBounds_toArray, List.set_cons_zero, List.set_cons_succ]
          refine UntH.take (i := 10) (some 119) rfl rfl (by kernel_rfl) (by kernel_rfl) (by kernel_rfl) (by kernel_rfl) (fun _ _ _ _ h => h) (by rfl) HS8.out ?_
          apply Exists.intro
          refine ⟨fun w' hw' => ?_, ?_⟩
          · (obtain ⟨q0, q1⟩ := hw')
            go_simp
            first | done | rfl
          try simp only [Act.put, List.setIfInBounds_toArray, List.set_cons_zero, List.set_cons_succ]
          refine UntH.take (i := 11) (some 120) rfl rfl (by kernel_rfl) (by kernel_rfl) (by kernel_rfl) (by kernel_rfl) (fun _ _ _ _ h => h) (by rfl) HS8.out ?_
          apply Exists.intro
          refine ⟨fun w' hw' => ?_, ?_⟩
          · (obtain ⟨q0, q1⟩ := hw')
            go_simp
            first | done | rfl
          try simp only [Act.put, List.setIfInBounds_toArray, List.set_cons_zero, List.set_cons_succ]
          refine UntH.take (i := 12) (some 121) rfl rfl (by kernel_rfl) (by kernel_rfl) (by kernel_rfl) (by kernel_rfl) (fun _ _ _ _ h => h) (by rfl) HS8.out ?_
          apply Exists.intro
          refine ⟨fun w' hw' => ?_, ?_⟩
          · (obtain ⟨q0, q1⟩ := hw')
            go_simp
            first | done | rfl
          try simp only [Act.put, List.setIfInBounds_toArray, List.set_cons_zero, List.set_cons_succ]
          refine UntH.take (i := 13) (some 122) rfl rfl (by kernel_rfl) (by kernel_rfl) (by kernel_rfl) (by kernel_rfl) (fun _ _ _ _ h => h) (by rfl) HS8.out ?_
          apply Exists.intro
          refine ⟨fun w' hw' => ?_, ?_⟩
          · (obtain ⟨q0, q1⟩ := hw')
            go_simp
            first | done | rfl
          try simp only [Act.put, List.setIfInBounds_toArray, List.set_cons_zero, List.set_cons_succ]
          refine UntH.take (i := 14) (some 123) rfl rfl (by kernel_rfl) (by kernel_rfl) (by kernel_rfl) (by kernel_rfl) (fun _ _ _ _ h => h) (by rfl) HS8.out ?_
          apply Exists.intro
          refine ⟨fun w' hw' => ?_, ?_⟩
          · (obtain ⟨q0, q1⟩ := hw')
            go_simp
            first | done | rfl
          try simp only [Act.put, List.setIfInBounds_toArray, List.set_cons_zero, List.set_cons_succ]
          have y9 : Below w8.heap.size w8 (w8.alloc (.cells #[.int .i64 g, .int .i64 r6] 133)) := al (Below.refl _ _) _
          have HNW := hide (two_new w8 (.int .i64 g) (.int .i64 r6) 133)
          have M9 := hide (M8.out.below y9)
          have O9 := hide (own_below OW.out y9)
          have KY := hide y9
          have HS9 : Hid ((w8.alloc (.cells #[.int .i64 g, .int .i64 r6] 133)).cell? ⟨d.mm, 2, none⟩ = some (.slice (some ⟨d.lb, 0, none⟩) d.n d.n) ∧ (w8.alloc (.cells #[.int .i64 g, .int .i64 r6] 133)).cell? ⟨d.lb, fn, none⟩ = some (.slice ao m cap)) := ⟨M9.out.blk.cells.2.2.1, by rw [← HV.out]; exact M9.out.lbc hf⟩
          clear y9
          refine UntH.step (i := 15) (by kernel_rfl) rfl (fun K hK => ?_)
          go_simp
          refine hK _ _ HS9.out ?_
          clear hK K
          generalize w8.alloc (.cells #[.int .i64 g, .int .i64 r6] 133) = w9 at *
          have HB9 : Hid (B ≤ w9.heap.size) := by have h1 := HB1.out; have h2 := HOB.out; have h3 := I.out.kp.size; have h4 := KS8.out; have h5 := KY.out.size; unfold Hid; omega
          have hfew := FEW.out
          refine UntH.step (i := 16) (by kernel_rfl) rfl (fun K hK => ?_)
          refine step_append_lies _ (by rfl) (.tmp 120) (.tmp 124) 132 (by rfl) B 133 i133 (.agg #[.int .i64 0, .int .i64 0]) 2 16 Try.underlying132 hi hz0 hz1 hz2 rfl (by decide) _ m (prC (LR' fn)) (by rfl) O9.out ⟨w8.heap.size, 0, none⟩ 1 1 [.int .i64 g, .int .i64 r6] (by rfl) (by rfl) HNW.out (by simp [Value.oneCell']) (by decide) (by unfold maxLen; omega) (by omega) HB9.out _ rfl ?_
          intro g5 cap5 w10 h1 h2 h3 h4
          have P10 := hide (M9.out.push (w4 := w10) (w5 := w10.setCell ⟨d.lb, fn, none⟩ (.slice (some ⟨g5, 0, none⟩) (m + 1) cap5)) (v4 := .slice (some ⟨g5, 0, none⟩) (m + 1) cap5) (g := g) (r := r6) hf (by rw [HM.out]; exact h1) (by rw [HV.out]; exact kept_of_grown h2) (fun j hj => by
            rw [HV.out]
            have e : g5 = j := Option.some.inj hj
            rw [← e]
            exact h3.imp id (fun e => by omega)) rfl (fun he => by
            rcases ST.out with h5 | h5
            · exact ⟨⟨HGN.out.1, HGN.out.2, h5.2⟩, NEW.out⟩
            · exact absurd (he.symm.trans h5.1) (by decide)))
          have b10 := (kept_of_grown h2).block d.lb (lt_of_block M9.out.lbk) (fun e => (M9.out.types.2 _ ⟨fn, hf, by rw [HV.out]; exact e⟩).2 rfl)
          have b11 := (kept_of_grown h2).block d.mm (lt_of_block M9.out.blk) (fun e => (M9.out.types.2 _ ⟨fn, hf, by rw [HV.out]; exact e⟩).1 rfl)
          rw [M9.out.lbk] at b10
          have HS10 : Hid (w10.cell? ⟨d.mm, 2, none⟩ = some (.slice (some ⟨d.lb, 0, none⟩) d.n d.n) ∧ w10.cell? ⟨d.lb, fn, none⟩ = some (.slice ao m cap)) := by
            refine ⟨?_, ?_⟩
            · rw [cell_of_row w10 d.mm _ _ _ _ (b11.trans M9.out.blk)]
              rfl
            · rw [← HV.out, ← M9.out.lbc hf, cell_of_row w10 d.lb _ _ _ _ b10, cell_of_row w9 d.lb _ _ _ _ M9.out.lbk]
          have f10 := frozen_of_row w10 d.lb fn _ _ b10
          refine hK _ _ HS10.out ?_
          clear hK K h1 h2 h3 h4 b10 b11
          refine UntH.take (i := 17) (some 126) rfl rfl (by kernel_rfl) (by kernel_rfl) (by kernel_rfl) (by kernel_rfl) (fun _ _ _ _ h => h) (by rfl) HS10.out ?_
          apply Exists.intro
          refine ⟨fun w' hw' => ?_, ?_⟩
          · (obtain ⟨q0, q1⟩ := hw')
            go_simp
            first | done | rfl
          have q12 := HS10.out.2
          refine UntH.last (by kernel_rfl) rfl (by kernel_rfl) (by kernel_rfl) (fun K hK => ?_)
          go_simp
          refine hK _ _ ?_
          clear hK K q12 f10 HS10 HS9 HS8
          obtain ⟨p1, p2, p3⟩ := P10.out
          have FIN : Hid (ApL d B N Q LR V (fn : Int) g w (.returned (.int .i64 r6)) (w10.setCell ⟨d.lb, fn, none⟩ (.slice (some ⟨g5, 0, none⟩) (m + 1) cap5))) := by
            obtain ⟨T5, hT5⟩ := I.out.ext
            have ks := KS8.out
            have s9 := KY.out.size
            refine ⟨r6, er6, N' ++ T6, Q6, _, _, rfl, p1, ⟨T5 ++ T6, by rw [hT5, List.append_assoc]⟩, (KW8.out.trans (Kept.of_below KY.out)).trans_new p2 (fun b hb e => ?_), fun b hb => ?_, fun b hb => ?_, IN6.out, ?_⟩
            · rcases e with e | e
              · exact .inr (.inr (.inl e))
              · refine .inr (.inr (.inr ((I.out.oo b e).elim id (fun h2 => ?_))))
                have := KW.out.size
                omega
            · rcases P6.out b hb with h1 | h1
              · exact (I.out.pp b h1).imp id (Nat.le_trans KW.out.size)
              · exact .inr (by omega)
            · rcases p3 b hb with h1 | h1
              · exact (I.out.oo b h1).imp id (Nat.le_trans KW.out.size)
              · exact .inr (by omega)
            · rcases ST.out with h5 | h5
              · refine .inl ⟨h5.1, h5.2, fun i hi x hx => ?_⟩
                have hl := HL.out
                have old : x ∈ LR' i → x ∈ LR i ∨ min (lvl d.S N (fn : Int)) (lvl d.S N g) ≤ min (lvl d.S N (i : Int)) (lvl d.S N x.1) := fun hm => (NE.out i hi x hm).imp id (fun h => by omega)
                unfold addL at hx
                by_cases e : i = fn
                · subst e
                  rw [if_pos rfl] at hx
                  rcases List.mem_append.1 hx with h6 | h6
                  · exact old h6
                  · simp at h6
                    subst h6
                    exact .inr (Int.le_refl _)
                · rw [if_neg e] at hx
                  exact old hx
              · exact .inr h5
          clear p1 p2 p3 P10
          go_wp2
          go_ret
          exact FIN.out
      · have FIN : Hid (ApL d B N Q LR V (fn : Int) g w (.returned (.int .i64 0)) wr) := ⟨0, 2, N', Q', LR', V', rfl, I.out.dm, I.out.ext, KW.out.trans I.out.kp, fun b hb => (I.out.pp b hb).imp id (Nat.le_trans KW.out.size), fun b hb => (I.out.oo b hb).imp id (Nat.le_trans KW.out.size), by rw [HEX.out]; unfold expF; rw [kf, if_neg (show ¬ (2 : Int) = 0 by decide)], .inr ⟨rfl, rfl⟩⟩
        clear kf
        by_cases hlt : k < n
        · have hlt' : (k : Int) < n := by omega
          go_wp2
          go_ret
          exact FIN.out
        · have hlt' : ¬ (k : Int) < n := by omega
          go_wp2
          go_ret
          exact FIN.out
theorem apply_any : ∀ (k : Nat) (w : World) (N : List Nd) (Q : Nat → Prop) (LR : Nat → List (Int × Int)) (V : List Value) (f g : Int), DM w d B N Q LR V 0 → B ≤ w.heap.size → (0 ≤ f ∧ f < (d.n : Int)) → (0 ≤ g ∧ g < (d.n : Int)) → (d.S.length : Int) ≤ min (lvl d.S N f) (lvl d.S N g) + k → Calls Try.prog 80 #[.pointer (some ⟨d.mm, 0, none⟩), .int .i64 f, .int .i64 g] w fun e w' => ApL d B N Q LR V f g w e w' := by
  intro k
  induction k with
  | zero =>
    intro w N Q LR V f g h hB hf hg hk
    obtain ⟨fn, rfl⟩ : ∃ fn : Nat, f = (fn : Int) := ⟨f.toNat, by omega⟩
    exact apply_step h hB (by omega) hg (fun l hl hm => by omega)
  | succ k ih =>
    intro w N Q LR V f g h hB hf hg hk
    obtain ⟨fn, rfl⟩ : ∃ fn : Nat, f = (fn : Int) := ⟨f.toNat, by omega⟩
    exact apply_step h hB (by omega) hg (fun l hl hm w' N' Q' LR' V' f' g' h' hB' hf' hg' h1 h2 => ih w' N' Q' LR' V' f' g' h' hB' hf' hg' (by omega))
end
end Go.Proofs.Ytaafeflbanoncaa
