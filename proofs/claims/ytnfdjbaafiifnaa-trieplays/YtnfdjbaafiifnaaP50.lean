/-
  TriePlays, walked: whatever it is given, it answers true; nothing that was there has turned. Condition: the script takes no more than a process can hold.
-/
import Derived.Test.YtnfdjbaafiifnaaP49
import Derived.Test.YtnfdjbaafiifnaaP20
namespace Go.Proofs.Ytnfdjbaafiifnaa
open Go.RowKit Go.Lib

theorem Try.info37p : (Try.prog.info? 37).map (fun i => (i.zero, i.size, i.bytes)) = some (some (.pointer none), 1, 8) := by kernel_rfl
theorem bk_new {w : World} {base bb : Nat} (h : w.heap[bb]? = some (.cells #[.slice none 0 0, .slice none 0 0, .slice none 0 0, .int .i64 0] 28 (0, 0))) (hb : base ≤ bb) : Bk w base bb 0 :=
  ⟨.slice none 0 0, .slice none 0 0, .slice none 0 0, 0, [], [], [], fun _ => [], ⟨h, hb, ⟨⟨World.ownsRow_nil _ _ _ _, fun i h => by simp at h, List.Pairwise.nil⟩, fun i h => by simp at h, World.ownsRow_nil _ _ _ _, fun i h => by simp at h, World.ownsRow_nil _ _ _ _, rfl, fun j hj => by simp at hj, fun k h => (by cases h), fun k _ h => (by cases h), fun k _ h => (by cases h), fun _ => Nat.zero_le _⟩⟩, rfl, Nat.le_refl _⟩
theorem SdAt.types {F : Nat → Prop} {w w' : World} {xb tb rb : Nat} {T : Tr} (h : SdAt w xb tb rb T) (hk : Kept F w w') (hF : ∀ k, F k → ∃ cs t f, w.heap[k]? = some (.cells cs t f) ∧ t = 37) : SdAt w' xb tb rb T := by
  obtain ⟨r, hr⟩ := h.tr.blk4
  obtain ⟨v, hv⟩ := h.dt.blk
  refine h.other hk (fun k hf => ?_)
  obtain ⟨cs, t, f, h1, h2⟩ := hF k hf
  subst h2
  refine ⟨fun e => ?_, fun e => ?_, fun e => ?_, cs, 37, f, h1, by decide, by decide⟩
  · subst e; rw [h.blk] at h1; simp at h1
  · subst e; rw [hr] at h1; simp at h1
  · subst e; rw [hv] at h1; simp at h1
/-- A side more. -/
theorem Pl.app {w0 wa w w' : World} {bb : Nat} {v v' : Value} {l : List Sd} {m : Nat} (ha : Pl w0 bb v l m wa) (x : Below wa.heap.size wa w) (s : Sd) (hs : SdAt w s.xb s.tb s.rb s.T) (h1 : wa.heap.size ≤ s.xb) (h2 : wa.heap.size ≤ s.tb) (h3 : wa.heap.size ≤ s.rb)
    (g1 : w'.ownsRow w0.heap.size 37 1 v' (l.length + 1) (l.map sdP ++ [sdP s])) (g2 : AppAt w w' v v') : Pl w0 bb v' (l ++ [s]) m w' := by
  have h := ha.next x
  have hk := appK g2
  have hF : ∀ k, v.ownBlock = some k → ∃ cs t f, w.heap[k]? = some (.cells cs t f) ∧ t = 37 := fun k hk => by
    obtain ⟨cs, h5⟩ := own_ty h.row k hk
    exact ⟨cs, 37, _, h5, rfl⟩
  have S1 : Sides w' w0.heap.size l := ⟨fun j hj => ⟨(h.sides.each j hj).1.types hk hF, (h.sides.each j hj).2⟩, h.sides.apart⟩
  refine ⟨S1.push ha.sides ha.below.size s (hs.types hk hF) h1 h2 h3, by rw [List.map_append, List.length_append]; exact g1, h.bk.kept hk (fun k hf => ?_), h.below.trans (hk.below h.below.size (fun k hf => (World.ownsRow.lt h.row k hf).1))⟩
  obtain ⟨cs, t, f, e1, e2⟩ := hF k hf
  exact ⟨cs, t, f, e1, by rw [e2]; decide, by rw [e2]; decide, by rw [e2]; decide⟩
theorem one_new37 (w : World) (x : Value) (j : Nat) (u : Value) (hu : ([x] : List Value)[j]? = some u) : (w.alloc (.cells #[x] 37)).cell? ((⟨w.heap.size, 0, none⟩ : Addr).add j) = some u := by
  match j, hu with
  | 0, hu => simp at hu; subst hu; simp [Addr.add]
theorem Pl.cell {w0 w : World} {bb : Nat} {v : Value} {l : List Sd} {m gl cl n : Nat} (h : Pl w0 bb v l m w) (hv : v = .slice (some ⟨gl, 0, none⟩) n cl) {k : Nat} (hk : k < l.length) : w.cell? ⟨gl, k, none⟩ = some (.pointer (some ⟨l[k].xb, 0, none⟩)) ∧ gl < w.heap.size := by
  have hr := h.row
  subst hv
  have hn : n = l.length := by
    rcases hr.2 with ⟨e, _⟩ | ⟨g', cap', cur, e, _⟩
    · cases e
    · injection e with _ e _
  subst hn
  refine ⟨?_, (World.ownsRow.lt hr gl rfl).2⟩
  rw [World.ownsRow.cellAt hr k (by omega)]
  simp [hk, sdP]
set_option maxRecDepth 100000 in
set_option maxHeartbeats 4000000 in
theorem triePlays_any (so : Option Addr) (cap : Nat) (S : List OpZ) (w : World) (hl : S.length ≤ 140737488351232) (hat : OpAt w so S) :
    Calls Try.prog 3 #[.slice so S.length cap] w fun e w' => e = .returned (.bool true) ∧ Below w.heap.size w w' := by
  obtain ⟨i37, hi37, hz0, hz1, hz2⟩ := info_parts Try.info37p
  have HWG := hide (weighs_any so cap S w hl hat)
  have HAT := hide hat
  clear hat
  go_enter Try.func3, Try.ntmps3
  go_upto_if 18 with (go_at_call 7; refine HWG.out.mono ?_; rintro e w1 ⟨⟨q, rfl, hq1, hq2⟩, x1⟩; have X1 := hide x1; have HQ2 := hide hq2; clear x1 hq2)
  clear HWG
  by_cases hgt : 2147483647 < q
  · have hgt' : (2147483647 : Int) < q := by omega
    go_wp2
    go_ret
    exact ⟨rfl, X1.out⟩
  · have hgt' : ¬ (2147483647 : Int) < q := by omega
    obtain ⟨hlen, hshort⟩ := HQ2.out (by omega)
    have HSH := hide hshort
    clear hshort HQ2
    go_upto_region 5 with (go_at_call 8; refine (awake_any _).mono ?_; rintro e w2 ⟨rfl, x2⟩; have X2 := hide (X1.out.trans (x2.mono X1.out.size)); clear x2)
    have X3 := hide (al X2.out (.cells #[.slice none 0 0, .slice none 0 0, .slice none 0 0, .int .i64 0] 28))
    have B3 := hide (bk_new (base := w.heap.size) (heap_alloc_new w2 (.cells #[.slice none 0 0, .slice none 0 0, .slice none 0 0, .int .i64 0] 28)) X2.out.size)
    obtain ⟨bb, hbb⟩ : ∃ bb, bb = w2.heap.size := ⟨_, rfl⟩
    rw [← hbb] at B3
    rw [← hbb]
    clear X1 X2 hbb
    generalize w2.alloc (.cells #[.slice none 0 0, .slice none 0 0, .slice none 0 0, .int .i64 0] 28) = w3 at *
    have P3 : Hid (Pl w bb (.slice none 0 0) [] 0 w3) := ⟨Sides.nil _ _, World.ownsRow_nil _ _ _ _, B3.out, X3.out⟩
    clear X3 B3
    go_upto_block 0 with fail
    go_cut [5, 6, 7, 8, 9, 10] (fun v _ _ _ _ _ wx => ∃ v' l, v' = v ∧ l.length = 2 ∧ Hid (Pl w bb v' l 0 wx))
    case first =>
      go_wp2
      go_loopw [5, 6] (fun v x wr => ∃ i : Nat, i ≤ 2 ∧ x = .int .i64 i ∧ ∃ l, l.length = i ∧ Hid (Pl w bb v l 0 wr)) (fun _ x _ => 2 - (RowKit.intOf x).toNat)
      case atStart => exact ⟨0, Nat.zero_le _, rfl, [], rfl, P3⟩
      case round =>
        obtain ⟨i, hi, rfl, l, hll, P4⟩ := hrel
        have HLL := hide hll
        clear P3 hll
        by_cases hlt : i < 2
        · have hlt' : (i : Int) < 2 := by omega
          have hlab : Lab (i : Int) := by unfold Lab; omega
          obtain ⟨av, cv, hv, _⟩ := own_shape P4.out.row
          subst hv
          have HN1 := hide (newL_any (i : Int) hlab wr)
          have HN2 : Hid (∀ V, Calls Try.prog 10 #[.int .i64 (i : Int)] V fun e w' => (∃ b, e = .returned (.tuple #[.pointer (some ⟨b, 0, none⟩), .int .i64 0]) ∧ DtAt w' b (fun _ => (i : Int)) ∧ V.heap.size ≤ b) ∧ Below V.heap.size V w') := fun V => (newD_any (i : Int) V).mono fun e w' ⟨g1, g2⟩ => by
            rcases g1 with ⟨_, g1⟩ | ⟨g1, _⟩
            · exact ⟨g1, g2⟩
            · exact absurd hlab g1
          have HLB := hide hlab
          clear hlab
          go_upto_region 13 with (first
            | (go_at_call 9; refine HN1.out.mono ?_; rintro e w4 ⟨⟨b4, rfl, ht4, hb4⟩, x4⟩; have T4 := hide ht4; have L4 := hide hb4; have X4 := hide x4; clear ht4 hb4 x4)
            | (go_at_call 10; refine (HN2.out _).mono ?_; rintro e w5 ⟨⟨b5, rfl, hd5, hb5⟩, x5⟩; have D5 := hide hd5; have L5 := hide hb5; have X5 := hide (X4.out.trans (x5.mono X4.out.size)); have T5 := hide (T4.out.below x5); clear hd5 hb5 x5))
          clear HN1 HN2
          have L5' : Hid (wr.heap.size ≤ b5) := Nat.le_trans X4.out.size L5.out
          clear X4 L5
          have X6 := hide (al X5.out (.cells #[.pointer (some ⟨b4, 0, none⟩), .pointer (some ⟨b5, 0, none⟩)] 39))
          have Y6 : Hid (Below w5.heap.size w5 (w5.alloc (.cells #[.pointer (some ⟨b4, 0, none⟩), .pointer (some ⟨b5, 0, none⟩)] 39))) := al (Below.refl _ w5) _
          have S6 : Hid (SdAt (w5.alloc (.cells #[.pointer (some ⟨b4, 0, none⟩), .pointer (some ⟨b5, 0, none⟩)] 39)) w5.heap.size b4 b5 (.leaf (i : Int))) := ⟨heap_alloc_new w5 _, T5.out.below Y6.out, (D5.out.congr (fun _ _ => rfl)).below Y6.out, trivial, HLB.out, by simp [Tr.dep]⟩
          have L6 : Hid (wr.heap.size ≤ w5.heap.size) := X5.out.size
          clear Y6 D5 T5 X5
          obtain ⟨xb, hxb⟩ : ∃ xb, xb = w5.heap.size := ⟨_, rfl⟩
          rw [← hxb] at S6 L6
          have HXB := hide hxb
          have X7 := hide (al X6.out (.cells #[.pointer (some ⟨xb, 0, none⟩)] 37))
          have S7 := hide (S6.out.below (al (Below.refl _ _) (.cells #[.pointer (some ⟨xb, 0, none⟩)] 37)))
          have HN7 := hide (one_new37 (w5.alloc (.cells #[.pointer (some ⟨b4, 0, none⟩), .pointer (some ⟨b5, 0, none⟩)] 39)) (.pointer (some ⟨xb, 0, none⟩)))
          rw [show (w5.alloc (.cells #[.pointer (some ⟨b4, 0, none⟩), .pointer (some ⟨b5, 0, none⟩)] 39)).heap.size = w5.heap.size + 1 by simp] at HN7
          have P7 := hide (P4.out.next X7.out)
          rw [hxb] at X7 S7 HN7 P7
          clear X6 S6 hxb
          go_wp2_with (at_builtin; refine wpList_append_view rfl (.tmp 47) (.tmp 52) 29 rfl w.heap.size 37 i37 (.pointer none) 1 8 Try.underlying29 hi37 hz0 hz1 hz2 rfl (by decide) _ l.length (l.map sdP) rfl P7.out.row ⟨w5.heap.size + 1, 0, none⟩ 1 1 [.pointer (some ⟨w5.heap.size, 0, none⟩)] rfl rfl HN7.out (by simp [Value.oneCell']) (by decide) (by rw [HLL.out]; unfold maxLen; omega) (by rw [HLL.out]; omega) P7.out.below.size ?_; intro v8 w8 h1 h2; have P8 := hide (P4.out.app X7.out ⟨w5.heap.size, b4, b5, .leaf (i : Int)⟩ S7.out (by rw [← HXB.out]; exact L6.out) L4.out L5'.out h1 h2); clear h1 h2)
          go_roundw
          case rel => exact ⟨i + 1, by omega, by go_num, _, by simp [HLL.out], P8⟩
          case measure => simp [RowKit.intOf]; omega
        · have hlt' : ¬ (i : Int) < 2 := by omega
          have hl2 : l.length = 2 := by rw [HLL.out]; omega
          go_wp2
          go_meet
          exact ⟨_, l, rfl, hl2, P4⟩
    case rest =>
      obtain ⟨v, l0, hv0, hl0, P5⟩ := hcut
      subst hv0
      clear P3
      obtain ⟨av, cv, hv, hpv⟩ := own_shape P5.out.row
      obtain ⟨gl, rfl⟩ := hpv (by omega)
      rw [hl0] at hv
      subst hv
      clear hpv
      go_upto_block 2 with fail
      go_cut [11, 12, 13] (fun _ _ _ wx => ∃ l, l.length = 2 ∧ Hid (Pl w bb (.slice (some ⟨gl, 0, none⟩) 2 cv) l (2 * S.length) wx))
      case first =>
        go_wp2
        go_loopw [11] (fun x wr => ∃ i : Nat, i ≤ S.length ∧ x = .int .i64 i ∧ ∃ l, l.length = 2 ∧ Hid (Pl w bb (.slice (some ⟨gl, 0, none⟩) 2 cv) l (2 * i) wr)) (fun x _ => S.length - (RowKit.intOf x).toNat)
        case atStart => exact ⟨0, Nat.zero_le _, rfl, l0, hl0, P5⟩
        case round =>
          obtain ⟨i, hi, rfl, l, hll, P6⟩ := hrel
          clear P5
          by_cases hlt : i < S.length
          · have hlt' : (i : Int) < S.length := by omega
            obtain ⟨hsL, hsR⟩ := HSH.out i hlt
            rcases HAT.out with h0 | ⟨sb, off, rfl, hsb, hc⟩
            · rw [h0] at hlt; simp at hlt
            obtain ⟨⟨c0, c1, c2, c3, c4, c5, c6⟩, hz, hr, hf1, hf2⟩ := hc i hlt
            have hk2 : pkZ S[i].on 4 / 3 < 2 := by have := pkZ_lt S[i].on (n := 4) (by decide); omega
            obtain ⟨k, hk⟩ : ∃ k, k = pkZ S[i].on 4 / 3 := ⟨_, rfl⟩
            rw [← hk] at hk2
            have hkl : k < l.length := by omega
            obtain ⟨hSk, b1, b2, b3⟩ := P6.out.sides.each k hkl
            have HST : Hid (∀ V, Below wr.heap.size wr V → Calls Try.prog 12 #[.pointer (some ⟨l[k].xb, 0, none⟩), opV S[i], .pointer (some ⟨bb, 0, none⟩)] V fun e w' => e = .returned (.bool true) ∧ StP V w.heap.size l[k].xb l[k].tb l[k].rb bb (2 * i + 2) w') := fun V x => by
              have hx := (P6.out.next x).below
              refine step_any S[i] (hSk.below x) (P6.out.next x).bk (by omega) hf2 (by omega) (by omega) (hz.below hx) (hr.below hx) (fun b off' e hne => ?_)
              rcases hz with h0 | ⟨b', off'', e', hb', _⟩
              · exact absurd h0 hne
              · rw [e] at e'
                injection e' with e'; injection e' with e1 e2
                subst e1
                exact ⟨by omega, by omega⟩
            unfold opV at HST
            have HPL := hide (fun V (x : Below wr.heap.size wr V) => P6.out.next x)
            obtain ⟨k0, kl⟩ := P6.out.cell rfl hkl
            have HPK := hide (fun V => pick_any S[i].on 4 hf1 (by decide) (by decide) V)
            have HPQ := hide (pkZ_lt S[i].on (n := 4) (by decide))
            have hsw := Nat.lt_of_lt_of_le hsb P6.out.below.size
            have q0 := (P6.out.below.cell (p := ⟨sb, off + i * 7, none⟩) hsb).trans c0
            have q1 := (P6.out.below.cell (p := ⟨sb, off + i * 7 + 1, none⟩) hsb).trans c1
            have q2 := (P6.out.below.cell (p := ⟨sb, off + i * 7 + 2, none⟩) hsb).trans c2
            have q3 := (P6.out.below.cell (p := ⟨sb, off + i * 7 + 3, none⟩) hsb).trans c3
            have q4 := (P6.out.below.cell (p := ⟨sb, off + i * 7 + 4, none⟩) hsb).trans c4
            have q5 := (P6.out.below.cell (p := ⟨sb, off + i * 7 + 5, none⟩) hsb).trans c5
            have q6 := (P6.out.below.cell (p := ⟨sb, off + i * 7 + 6, none⟩) hsb).trans c6
            have HSTP := hide (fun (V w' : World) (x : Below wr.heap.size wr V) (h : StP V w.heap.size l[k].xb l[k].tb l[k].rb bb (2 * i + 2) w') => (P6.out.next x).step hkl h)
            rw [hll] at HSTP
            have HHK := hide hk
            clear c0 c1 c2 c3 c4 c5 c6 hz hr hc hSk b1 b2 b3 P6 HAT HSH
            generalize l[k].xb = xb at *
            generalize l[k].tb = tb at *
            generalize l[k].rb = rb at *
            generalize S[i].kind = okind at *
            generalize S[i].on = oon at *
            generalize S[i].n = on at *
            generalize S[i].a = oa at *
            generalize S[i].k = ok at *
            generalize S[i].la = ola at *
            generalize S[i].L.length = oll at *
            generalize S[i].lc = olc at *
            generalize S[i].ra = ora at *
            generalize S[i].R.length = orl at *
            generalize S[i].rc = orc at *
            clear hf1 hf2 hsL hsR
            generalize pkZ oon 4 = z at *
            have hz4 := HPQ.out
            have f3 : (z : Int).tdiv 3 = (k : Int) := by rw [Int.tdiv_eq_ediv_of_nonneg (by omega)]; omega
            have f4 : IntKind.i64.wrap (k : Int) = (k : Int) := by simp [IntKind.wrap, IntKind.bits, IntKind.signed]; omega
            have hk2' : (k : Int) < 2 := by omega
            clear hk HHK
            have HQ : Hid (∀ V, Below wr.heap.size wr V → V.cell? ⟨gl, k, none⟩ = some (.pointer (some ⟨xb, 0, none⟩)) ∧ V.cell? ⟨sb, off + i * 7, none⟩ = some (.int .i64 okind) ∧ V.cell? ⟨sb, off + i * 7 + 1, none⟩ = some (.int .i64 oon) ∧ V.cell? ⟨sb, off + i * 7 + 2, none⟩ = some (.int .i64 on) ∧ V.cell? ⟨sb, off + i * 7 + 3, none⟩ = some (.int .i64 oa) ∧ V.cell? ⟨sb, off + i * 7 + 4, none⟩ = some (.int .i64 ok) ∧ V.cell? ⟨sb, off + i * 7 + 5, none⟩ = some (.slice ola oll olc) ∧ V.cell? ⟨sb, off + i * 7 + 6, none⟩ = some (.slice ora orl orc)) := fun V y =>
              ⟨(y.cell (p := ⟨gl, k, none⟩) kl).trans k0, (y.cell (p := ⟨sb, off + i * 7, none⟩) hsw).trans q0, (y.cell (p := ⟨sb, off + i * 7 + 1, none⟩) hsw).trans q1, (y.cell (p := ⟨sb, off + i * 7 + 2, none⟩) hsw).trans q2, (y.cell (p := ⟨sb, off + i * 7 + 3, none⟩) hsw).trans q3, (y.cell (p := ⟨sb, off + i * 7 + 4, none⟩) hsw).trans q4, (y.cell (p := ⟨sb, off + i * 7 + 5, none⟩) hsw).trans q5, (y.cell (p := ⟨sb, off + i * 7 + 6, none⟩) hsw).trans q6⟩
            clear k0 kl hsw hsb q0 q1 q2 q3 q4 q5 q6 HPQ hz4
            go_upto_region 17 with fail
            refine wp_unt (S := fun V => Below wr.heap.size wr V) 15 (by kernel_rfl) ?_
            have HS0 : Hid (Below wr.heap.size wr wr.drew) := (Below.refl _ _).drew
            generalize wr.drew = wd at *
            refine UntH.take (i := 0) (some 60) rfl rfl (by kernel_rfl) (by kernel_rfl) (by kernel_rfl) (by kernel_rfl) (fun _ _ _ _ h => h) (by rfl) HS0.out ?_
            apply Exists.intro
            refine ⟨fun w' hw' => ?_, ?_⟩
            · obtain ⟨g0, g1, g2, g3, g4, g5, g6, g7⟩ := HQ.out w' hw'
              go_simp
              first | done | rfl
            try simp only [Act.put, List.setIfInBounds_toArray, List.set_cons_zero, List.set_cons_succ]
            refine UntH.take (i := 1) (some 61) rfl rfl (by kernel_rfl) (by kernel_rfl) (by kernel_rfl) (by kernel_rfl) (fun _ _ _ _ h => h) (by rfl) HS0.out ?_
            apply Exists.intro
            refine ⟨fun w' hw' => ?_, ?_⟩
            · obtain ⟨g0, g1, g2, g3, g4, g5, g6, g7⟩ := HQ.out w' hw'
              go_simp
              first | done | rfl
            try simp only [Act.put, List.setIfInBounds_toArray, List.set_cons_zero, List.set_cons_succ]
            refine UntH.take (i := 2) (some 62) rfl rfl (by kernel_rfl) (by kernel_rfl) (by kernel_rfl) (by kernel_rfl) (fun _ _ _ _ h => h) (by rfl) HS0.out ?_
            apply Exists.intro
            refine ⟨fun w' hw' => ?_, ?_⟩
            · obtain ⟨g0, g1, g2, g3, g4, g5, g6, g7⟩ := HQ.out w' hw'
              go_simp
              first | done | rfl
            try simp only [Act.put, List.setIfInBounds_toArray, List.set_cons_zero, List.set_cons_succ]
            refine UntH.take (i := 3) (some 63) rfl rfl (by kernel_rfl) (by kernel_rfl) (by kernel_rfl) (by kernel_rfl) (fun _ _ _ _ h => h) (by rfl) HS0.out ?_
            apply Exists.intro
            refine ⟨fun w' hw' => ?_, ?_⟩
            · obtain ⟨g0, g1, g2, g3, g4, g5, g6, g7⟩ := HQ.out w' hw'
              go_simp
              first | done | rfl
            try simp only [Act.put, List.setIfInBounds_toArray, List.set_cons_zero, List.set_cons_succ]
            refine UntH.take (i := 4) (some 64) rfl rfl (by kernel_rfl) (by kernel_rfl) (by kernel_rfl) (by kernel_rfl) (fun _ _ _ _ h => h) (by rfl) HS0.out ?_
            apply Exists.intro
            refine ⟨fun w' hw' => ?_, ?_⟩
            · obtain ⟨g0, g1, g2, g3, g4, g5, g6, g7⟩ := HQ.out w' hw'
              go_simp
              first | done | rfl
            try simp only [Act.put, List.setIfInBounds_toArray, List.set_cons_zero, List.set_cons_succ]
            refine UntH.take (i := 5) (some 65) rfl rfl (by kernel_rfl) (by kernel_rfl) (by kernel_rfl) (by kernel_rfl) (fun _ _ _ _ h => h) (by rfl) HS0.out ?_
            apply Exists.intro
            refine ⟨fun w' hw' => ?_, ?_⟩
            · obtain ⟨g0, g1, g2, g3, g4, g5, g6, g7⟩ := HQ.out w' hw'
              go_simp
              first | done | rfl
            try simp only [Act.put, List.setIfInBounds_toArray, List.set_cons_zero, List.set_cons_succ]
            refine UntH.take (i := 10) (some 70) rfl rfl (by kernel_rfl) (by kernel_rfl) (by kernel_rfl) (by kernel_rfl) (fun _ _ _ _ h => h) (by rfl) HS0.out ?_
            apply Exists.intro
            refine ⟨fun w' hw' => ?_, ?_⟩
            · obtain ⟨g0, g1, g2, g3, g4, g5, g6, g7⟩ := HQ.out w' hw'
              go_simp
              first | done | rfl
            try simp only [Act.put, List.setIfInBounds_toArray, List.set_cons_zero, List.set_cons_succ]
            refine UntH.take (i := 11) (some 71) rfl rfl (by kernel_rfl) (by kernel_rfl) (by kernel_rfl) (by kernel_rfl) (fun _ _ _ _ h => h) (by rfl) HS0.out ?_
            apply Exists.intro
            refine ⟨fun w' hw' => ?_, ?_⟩
            · obtain ⟨g0, g1, g2, g3, g4, g5, g6, g7⟩ := HQ.out w' hw'
              go_simp
              first | done | rfl
            try simp only [Act.put, List.setIfInBounds_toArray, List.set_cons_zero, List.set_cons_succ]
            refine UntH.take (i := 12) (some 72) rfl rfl (by kernel_rfl) (by kernel_rfl) (by kernel_rfl) (by kernel_rfl) (fun _ _ _ _ h => h) (by rfl) HS0.out ?_
            apply Exists.intro
            refine ⟨fun w' hw' => ?_, ?_⟩
            · obtain ⟨g0, g1, g2, g3, g4, g5, g6, g7⟩ := HQ.out w' hw'
              go_simp
              first | done | rfl
            try simp only [Act.put, List.setIfInBounds_toArray, List.set_cons_zero, List.set_cons_succ]
            refine UntH.take (i := 13) (some 73) rfl rfl (by kernel_rfl) (by kernel_rfl) (by kernel_rfl) (by kernel_rfl) (fun _ _ _ _ h => h) (by rfl) HS0.out ?_
            apply Exists.intro
            refine ⟨fun w' hw' => ?_, ?_⟩
            · obtain ⟨g0, g1, g2, g3, g4, g5, g6, g7⟩ := HQ.out w' hw'
              go_simp
              first | done | rfl
            try simp only [Act.put, List.setIfInBounds_toArray, List.set_cons_zero, List.set_cons_succ]
            refine UntH.take (i := 14) (some 74) rfl rfl (by kernel_rfl) (by kernel_rfl) (by kernel_rfl) (by kernel_rfl) (fun _ _ _ _ h => h) (by rfl) HS0.out ?_
            apply Exists.intro
            refine ⟨fun w' hw' => ?_, ?_⟩
            · obtain ⟨g0, g1, g2, g3, g4, g5, g6, g7⟩ := HQ.out w' hw'
              go_simp
              first | done | rfl
            try simp only [Act.put, List.setIfInBounds_toArray, List.set_cons_zero, List.set_cons_succ]
            refine UntH.step (i := 6) (by kernel_rfl) rfl (fun K' hK => ?_)
            go_simp
            refine (HPK.out wd).mono ?_
            rintro e wz ⟨rfl, hwz⟩
            have hwz := hwz.symm
            subst hwz
            refine hK _ _ HS0.out ?_
            clear hK K'
            try simp only [Act.put, List.setIfInBounds_toArray, List.set_cons_zero, List.set_cons_succ]
            refine UntH.take (i := 7) (some 67) rfl rfl (by kernel_rfl) (by kernel_rfl) (by kernel_rfl) (by kernel_rfl) (fun _ _ _ _ h => h) (by rfl) HS0.out ?_
            apply Exists.intro
            refine ⟨fun w' hw' => ?_, ?_⟩
            · obtain ⟨g0, g1, g2, g3, g4, g5, g6, g7⟩ := HQ.out w' hw'
              go_simp
              first | done | rfl
            try simp only [Act.put, List.setIfInBounds_toArray, List.set_cons_zero, List.set_cons_succ]
            refine UntH.take (i := 8) (some 68) rfl rfl (by kernel_rfl) (by kernel_rfl) (by kernel_rfl) (by kernel_rfl) (fun _ _ _ _ h => h) (by rfl) HS0.out ?_
            apply Exists.intro
            refine ⟨fun w' hw' => ?_, ?_⟩
            · obtain ⟨g0, g1, g2, g3, g4, g5, g6, g7⟩ := HQ.out w' hw'
              go_simp
              first | done | rfl
            try simp only [Act.put, List.setIfInBounds_toArray, List.set_cons_zero, List.set_cons_succ]
            refine UntH.take (i := 9) (some 69) rfl rfl (by kernel_rfl) (by kernel_rfl) (by kernel_rfl) (by kernel_rfl) (fun _ _ _ _ h => h) (by rfl) HS0.out ?_
            apply Exists.intro
            refine ⟨fun w' hw' => ?_, ?_⟩
            · obtain ⟨g0, g1, g2, g3, g4, g5, g6, g7⟩ := HQ.out w' hw'
              go_simp
              first | done | rfl
            try simp only [Act.put, List.setIfInBounds_toArray, List.set_cons_zero, List.set_cons_succ]
            have HSV := hide (HST.out wd HS0.out)
            refine UntH.stepf (i := 15) (by kernel_rfl) rfl (by kernel_rfl) (fun K' hK => ?_)
            go_simp
            refine HSV.out.mono ?_
            rintro e w5 ⟨rfl, hs5⟩
            obtain ⟨l', hl', hP'⟩ := HSTP.out wd w5 HS0.out hs5
            have P7 := hide hP'
            refine hK _ _ ?_
            clear hK K' hs5 hP' HSV HST HSTP HQ
            refine UntH.stepf (i := 16) (by kernel_rfl) rfl (by kernel_rfl) (fun K' hK => ?_)
            go_simp
            refine hK _ _ ?_
            clear hK K'
            refine UntH.end (by kernel_rfl) ?_
            have HLE : Hid (i + 1 ≤ S.length) := hlt
            have P8 : Hid (Pl w bb (.slice (some ⟨gl, 0, none⟩) 2 cv) l' (2 * (i + 1)) w5) := P7.out
            clear P7 HPK HPL
            have HST2 := hide (still_bk P8.out.bk (by omega))
            by_cases h4 : i % 4 = 3
            · have h4' : (i : Int).tmod 4 = 3 := by rw [Int.tmod_eq_emod_of_nonneg (by omega)]; omega
              have h4'' : (i : Int) % 4 = 3 := by omega
              clear h4
              go_wp2_with (go_at_call 13; refine HST2.out.mono ?_; rintro e w6 ⟨rfl, hb6, hk6⟩; have P9 := hide (P8.out.still hb6 hk6); clear hb6 hk6)
              go_roundw
              case rel => exact ⟨i + 1, HLE.out, by go_num, l', hl', P9⟩
              case measure => simp [RowKit.intOf]; omega
            · have h4' : ¬ (i : Int).tmod 4 = 3 := by rw [Int.tmod_eq_emod_of_nonneg (by omega)]; omega
              have h4'' : ¬ (i : Int) % 4 = 3 := by omega
              have j4 : ((i : Int) % 4 == 3) = false := by simpa using h4''
              have j4' : ((i : Int).tmod 4 == 3) = false := by simpa using h4'
              clear h4
              go_wp2
              go_roundw
              case rel => exact ⟨i + 1, HLE.out, by go_num, l', hl', P8⟩
              case measure => simp [RowKit.intOf]; omega
          · have hlt' : ¬ (i : Int) < S.length := by omega
            have h8 : i = S.length := by omega
            have P7 : Hid (Pl w bb (.slice (some ⟨gl, 0, none⟩) 2 cv) l (2 * S.length) wr) := by have := P6.out; rw [h8] at this; exact this
            clear P6 h8
            go_wp2
            go_meet
            exact ⟨l, hll, P7⟩
      case rest =>
        obtain ⟨l, hll, P6⟩ := hcut
        clear P5 hl0 HAT HSH
        have hk0 : 0 < l.length := by omega
        obtain ⟨k0, kl⟩ := P6.out.cell rfl hk0
        have hS0 := (P6.out.sides.each 0 hk0).1
        have HST := hide (stepRows 0 0 0 0 none none 0 0 0 0 hS0 P6.out.bk (by omega))
        have HSP := hide (fun (w' : World) (h : StP wc w.heap.size l[0].xb l[0].tb l[0].rb bb (2 * S.length + 2) w') => P6.out.step hk0 h)
        rw [hll] at HSP
        generalize l[0].xb = xb at *
        go_upto_region 25 with (go_at_call 12; refine HST.out.mono ?_; rintro e w7 ⟨rfl, hs7⟩; obtain ⟨l7, hl7, hp7⟩ := HSP.out w7 hs7; have P7 := hide hp7; clear hs7 hp7)
        clear HST HSP k0 kl hS0 hk0 P6
        have hk1 : 1 < l7.length := by omega
        obtain ⟨k0, kl⟩ := P7.out.cell rfl hk1
        have hS1 := (P7.out.sides.each 1 hk1).1
        have HST := hide (stepRows 0 0 0 0 none none 0 0 0 0 hS1 P7.out.bk (by omega))
        have HSP := hide (fun (w' : World) (h : StP w7 w.heap.size l7[1].xb l7[1].tb l7[1].rb bb (2 * S.length + 2 + 2) w') => P7.out.step hk1 h)
        rw [hl7] at HSP
        generalize l7[1].xb = xb' at *
        go_upto_region 26 with (go_at_call 12; refine HST.out.mono ?_; rintro e w8 ⟨rfl, hs8⟩; obtain ⟨l8, hl8, hp8⟩ := HSP.out w8 hs8; have P8 := hide hp8; clear hs8 hp8)
        clear HST HSP k0 kl hS1 hk1 P7
        have HST2 := hide (still_bk P8.out.bk (by omega))
        go_wp2_with (go_at_call 13; refine HST2.out.mono ?_; rintro e w9 ⟨rfl, hb9, hk9⟩; have P9 := hide (P8.out.still hb9 hk9); clear hb9 hk9)
        go_ret
        exact ⟨rfl, P9.out.below⟩
end Go.Proofs.Ytnfdjbaafiifnaa
