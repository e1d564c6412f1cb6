/-
  The document's rows, Rows by their contracts. Condition: cuts of a function of words.
-/
import Derived.Test.YtnfdjbaafiifnaaP31
import Derived.Test.YtnfdjbaafiifnaaP32
import Derived.Test.YtnfdjbaafiifnaaP26
import Derived.Test.YtnfdjbaafiifnaaP15
import Derived.Test.YtnfdjbaafiifnaaP33
import Derived.Deep.AppendLies
import Derived.Deep.DeepCutAuto
import Derived.Deep.CutBlock
namespace Go.Proofs.Ytnfdjbaafiifnaa
open Go.RowKit Go.Lib

theorem rowsF_len (g : Nat → Int) : ∀ (d a k : Nat), (rowsF g d a k).length ≤ 2 ^ d
  | 0, _, _ => by simp [rowsF]
  | d + 1, a, k => by
    have hp : 2 ^ (d + 1) = 2 ^ d * 2 := Nat.pow_succ 2 d
    have h0 : 0 < 2 ^ d := Nat.pow_pos (by decide)
    by_cases h : Cst g a (2 ^ (d + 1))
    · rw [rowsF_cst (d + 1) k h]
      simp
      omega
    · rw [rowsF_not d k h, List.length_append]
      have := rowsF_len g d a (k + 1)
      have := rowsF_len g d (a + 2 ^ d) (k + 1)
      omega
theorem OfI.get {C : List Ct} {n : Int} {i : Nat} (h : OfI C n i) : ∃ c, C[i]? = some c ∧ c.1 ≤ n ∧ ∀ m : Nat, n < m → n < nxt C m (i + 1) := by
  obtain ⟨h1, h2, h3⟩ := h
  refine ⟨C[i], List.getElem?_eq_getElem h1, h2, fun m hm => ?_⟩
  rcases Nat.lt_or_ge (i + 1) C.length with h | h
  · rw [nxt_some (List.getElem?_eq_getElem h)]
    exact h3 h
  · rw [nxt_none h]
    exact hm
/-- One row more. -/
theorem rowD_app {w0 w : World} {b base i : Nat} {v : Value} {C : List Ct} {c : Ct} (hC0 : OwnC w0 base v C) (hb0 : w0.heap[b]? = some (.cells #[v] 78 (0, 0))) (hi : C[i]? = some c) (hx : Below w0.heap.size w0 w) {P a k : Nat} (hP : w.heap[P]? = some (.cells #[.int .i64 a, .int .i64 k] 42 (0, 0))) :
    w.cell? ⟨b, 0, none⟩ = some v ∧ (∀ g cap, v = .slice (some ⟨g, 0, none⟩) C.length cap → w.cell? ⟨g, i * 2 + 1, none⟩ = some (.int .i64 c.2)) ∧ w.cell? ⟨P, 0, none⟩ = some (.int .i64 a) ∧ w.cell? ⟨P, 1, none⟩ = some (.int .i64 k) := by
  have hil := (List.getElem?_eq_some_iff.1 hi)
  obtain ⟨h1, h2⟩ := hil
  refine ⟨?_, fun g cap hv => ?_, ?_, ?_⟩
  · have := (hx.block b (lt_of_block hb0)).trans hb0
    rw [cell_of_row _ _ _ _ _ _ this]; rfl
  · have := own_below hC0 hx
    rw [hv] at this
    rw [(ct_at this h1).2, h2]
  · rw [cell_of_row _ _ _ _ _ _ hP]; rfl
  · rw [cell_of_row _ _ _ _ _ _ hP]; rfl
theorem three_new (w : World) (u0 u1 u2 : Value) (j : Nat) (u : Value) (hu : [u0, u1, u2][j]? = some u) : (w.alloc (.cells #[u0, u1, u2] 65)).cell? ((⟨w.heap.size, 0, none⟩ : Addr).add j) = some u := by
  have hB := heap_alloc_new w (.cells #[u0, u1, u2] 65)
  rw [show (⟨w.heap.size, 0, none⟩ : Addr).add j = ⟨w.heap.size, 0 + j, none⟩ by unfold Addr.add; split <;> simp_all, cell_of_row _ _ _ _ _ _ hB]
  simpa using hu
/-- The rows of a prefix of d bits more. -/
def RwC (w0 : World) (b : Nat) (g : Nat → Int) (m d : Nat) : Prop := ∀ (a k : Nat) (L : List Rw) (l : Value) (w : World), k + d = 32 → a + 2 ^ d ≤ m → L.length ≤ a → Below w0.heap.size w0 w → OwnR w w0.heap.size l L →
  Calls Try.prog 52 #[.pointer (some ⟨b, 0, none⟩), l, .agg #[.int .i64 (a : Nat), .int .i64 (k : Nat)]] w fun e w' => (∃ l', e = .returned l' ∧ OwnR w' w0.heap.size l' (L ++ rowsF g d a k)) ∧ Below w0.heap.size w0 w' ∧ KeepT w w'
set_option maxHeartbeats 2000000 in
set_option maxRecDepth 100000 in
theorem rowsD_step {w0 : World} {b base : Nat} {v : Value} {C : List Ct} {g : Nat → Int} {m : Nat} (hm : m = 4294967296) (hz : Cz g m C) (hlC : C.length ≤ 4294967296) (hC0 : OwnC w0 base v C) (hb0 : w0.heap[b]? = some (.cells #[v] 78 (0, 0))) (d : Nat) (IH : ∀ d', d = d' + 1 → RwC w0 b g m d') : RwC w0 b g m d := by
  intro a k L l w hk ham hLa hx hL
  have hm0 : 0 < m := by omega
  obtain ⟨c0', hc0'⟩ : ∃ c, C[0]? = some c := by
    have := hz.ne hm0
    cases C with
    | nil => exact absurd rfl this
    | cons c C => exact ⟨c, rfl⟩
  have hpos : 0 < C.length := (List.getElem?_eq_some_iff.1 hc0').1
  have hC00 : C[0].1 = 0 := by
    have := hz.first c0' hc0'
    rw [List.getElem?_eq_getElem hpos] at hc0'
    rw [Option.some.inj hc0']
    exact this
  obtain ⟨ao, cap, e1, hgo⟩ := own_shape hC0
  obtain ⟨gr, e2⟩ := hgo hpos
  subst e1 e2
  obtain ⟨la, lc, e3, _⟩ := own_shape hL
  subst e3
  obtain ⟨S, hS⟩ : ∃ S, S = 2 ^ d := ⟨_, rfl⟩
  have hS0 : 0 < S := by rw [hS]; exact Nat.pow_pos (by decide)
  have hSm : S ≤ 4294967296 := by omega
  have HSZ : Hid (∀ W, Calls Try.prog 46 #[.int .i64 (k : Nat)] W fun e w' => e = .returned (.int .i64 (S : Nat)) ∧ w' = W) := fun W => by
    have := size_any k (by omega) W
    rw [show 32 - k = d by omega, ← hS] at this
    exact this
  obtain ⟨W, hW⟩ : ∃ W, W = w.alloc (.cells #[.int .i64 (a : Nat), .int .i64 (k : Nat)] 42) := ⟨_, rfl⟩
  have XW := hide (show Below w0.heap.size w0 W by rw [hW]; exact al hx _)
  have HP := hide (show W.heap[w.heap.size]? = some (.cells #[.int .i64 (a : Nat), .int .i64 (k : Nat)] 42 (0, 0)) by rw [hW]; exact heap_alloc_new w _)
  have KW := hide (show KeepT w W by rw [hW]; exact KeepT.below (al (Below.refl _ _) _))
  have HLW := hide (show OwnR W w0.heap.size (.slice la L.length lc) L by rw [hW]; exact own_below hL (al (Below.refl _ _) _))
  obtain ⟨P, hP⟩ : ∃ P, P = w.heap.size := ⟨_, rfl⟩
  have hPl : P < W.heap.size := by rw [hP]; exact lt_of_block HP.out
  rw [← hP] at HP
  have HOF : Hid (Calls Try.prog 48 #[.pointer (some ⟨b, 0, none⟩), .int .i64 (a : Int)] W fun e w' => (∃ i : Nat, e = .returned (.int .i64 (i : Nat)) ∧ OfI C a i) ∧ w' = W) :=
    of_any ((XW.out.block b (lt_of_block hb0)).trans hb0) (own_below hC0 XW.out) (a : Int) ⟨hpos, by rw [hC00]; omega⟩ hlC
  have HZ := hide hz
  have HIH := hide IH
  have HC0 := hide hC0
  have HB0 := hide hb0
  have p0 : W.cell? ⟨P, 0, none⟩ = some (.int .i64 (a : Int)) := by rw [cell_of_row _ _ _ _ _ _ HP.out]; rfl
  have p1 : W.cell? ⟨P, 1, none⟩ = some (.int .i64 (k : Int)) := by rw [cell_of_row _ _ _ _ _ _ HP.out]; rfl
  have HAM := hide ham
  have HLA := hide hLa
  have HK := hide hk
  clear hL hx hC0 hb0 hz IH hc0' hC00 hgo ham hLa
  have HSD := hide hS
  clear hS
  go_enter Try.func52, Try.ntmps52
  go_upto_region 1 with fail
  rw [← hW, ← hP]
  clear hW hP
  go_upto_region 3 with (first | (go_at_call 48; refine HOF.out.mono ?_; rintro e wz ⟨⟨i, rfl, hof⟩, hwz⟩; have hwz := hwz.symm; subst hwz; have HI := hide hof; clear hof) | (go_at_call 46; refine (HSZ.out _).mono ?_; rintro e wz ⟨rfl, hwz⟩; have hwz := hwz.symm; subst hwz))
  clear HOF HSZ
  obtain ⟨c, hci, hca, hcn⟩ := HI.out.get
  have hcn := hcn m (by have := HAM.out; rw [← HSD.out] at this; omega)
  have HCI := hide hci
  have hil : i < C.length := (List.getElem?_eq_some_iff.1 hci).1
  have HIFF : Hid (Cst g a S ↔ ((a + S : Nat) : Int) ≤ nxt C m (i + 1)) := cst_iff HZ.out hci hca hcn (by rw [HSD.out]; exact HAM.out)
  have HGA : Hid (g a = c.2) := HZ.out.seg i c hci a hca hcn
  obtain ⟨r0, _, _, _⟩ := rowD_app HC0.out HB0.out hci XW.out HP.out
  have f1 : IntKind.i64.wrap ((i : Int) + 1) = (i : Int) + 1 := by rw [show (i : Int) + 1 = ((i + 1 : Nat) : Int) by simp]; simp [IntKind.wrap, IntKind.bits, IntKind.signed]; omega
  have f2 : IntKind.i64.wrap ((a : Int) + (S : Int)) = (a : Int) + (S : Int) := by have := HAM.out; rw [← HSD.out] at this; simp [IntKind.wrap, IntKind.bits, IntKind.signed]; omega
  have t1 : ((i : Int) + 1).toNat = i + 1 := by omega
  have t2 : (0 : Int) ≤ (i : Int) + 1 := by omega
  have HCUT : Hid (∀ h : i + 1 < C.length, W.cell? ⟨gr, (i + 1) * 2, none⟩ = some (.int .i64 C[i + 1].1)) := fun h => (ct_at (own_below HC0.out XW.out) h).1
  have HNX : Hid (∀ h : i + 1 < C.length, nxt C m (i + 1) = C[i + 1].1) := fun h => nxt_some (List.getElem?_eq_getElem h)
  have HNY : Hid (i + 1 = C.length → nxt C m (i + 1) = m) := fun h => nxt_none (by omega)
  clear hci HI hca hcn
  go_cut [39] (fun sx wx => ∃ bo : Bool, sx = .bool bo ∧ Hid (bo = true ↔ Cst g a S) ∧ Hid (Below W.heap.size W wx))
  case first =>
    by_cases hl : i + 1 = C.length
    · have hl' : (i : Int) + 1 = (C.length : Int) := by omega
      have hlb : ((i : Int) + 1 == (C.length : Int)) = true := by simp [hl']
      have HR : Hid (Cst g a S) := HIFF.out.2 (by rw [HNY.out hl]; have := HAM.out; rw [← HSD.out] at this; omega)
      clear hl hl'
      go_quiet (fail)
      try go_wp2
      go_meet
      exact ⟨true, rfl, ⟨fun _ => HR.out, fun _ => rfl⟩, below_drewN _ _ _⟩
    · have hl2 : i + 1 < C.length := by omega
      have hl3 : (i : Int) + 1 < (C.length : Int) := by omega
      have hl' : ¬ (i : Int) + 1 = (C.length : Int) := by omega
      have hlb : ((i : Int) + 1 == (C.length : Int)) = false := by simp [hl']
      have c1 := HCUT.out hl2
      have hn := HNX.out hl2
      rw [hn] at HIFF
      generalize C[i + 1].1 = z at *
      by_cases hge : (a : Int) + (S : Int) ≤ z
      · have HR : Hid (Cst g a S) := HIFF.out.2 (by omega)
        clear hn HNX
        go_quiet (fail)
        try go_wp2
        go_meet
        exact ⟨true, by first | rfl | simp [hge], ⟨fun _ => HR.out, fun _ => rfl⟩, below_drewN _ _ _⟩
      · have HR : Hid (¬ Cst g a S) := fun h => by have := HIFF.out.1 h; omega
        clear hn HNX
        go_quiet (fail)
        try go_wp2
        go_meet
        exact ⟨false, by first | rfl | simp [hge], ⟨fun h => (by cases h), fun h => absurd h HR.out⟩, below_drewN _ _ _⟩
  case rest =>
    obtain ⟨bo, hbo, HBO, X2⟩ := hcut
    subst hbo
    have XC := hide (XW.out.trans (X2.out.mono XW.out.size))
    have HLC := hide (own_below HLW.out X2.out)
    have HPC := hide ((X2.out.block P hPl).trans HP.out)
    have KC := hide (KW.out.trans (KeepT.below X2.out))
    have hLl : L.length ≤ 4294967295 := by have h1 := HLA.out; have h2 := HAM.out; rw [← HSD.out] at h2; omega
    clear XW HLW HP X2 p0 p1 r0 HCUT HNX HNY HIFF
    cases bo with
    | true =>
      have HCS := hide (HBO.out.1 rfl)
      clear HBO HIH
      obtain ⟨i65, hi65, hz0, hz1, hz2⟩ := info_parts Try.info65
      have HRD : Hid (∀ V, Below wc.heap.size wc V → V.cell? ⟨b, 0, none⟩ = some (.slice (some ⟨gr, 0, none⟩) C.length cap) ∧ V.cell? ⟨gr, i * 2 + 1, none⟩ = some (.int .i64 c.2) ∧ V.cell? ⟨P, 0, none⟩ = some (.int .i64 (a : Int)) ∧ V.cell? ⟨P, 1, none⟩ = some (.int .i64 (k : Int))) := fun V y => by
        obtain ⟨q1, q2, q3, q4⟩ := rowD_app HC0.out HB0.out HCI.out (XC.out.trans (y.mono XC.out.size)) ((y.block P (lt_of_block HPC.out)).trans HPC.out)
        exact ⟨q1, q2 _ _ rfl, q3, q4⟩
      have hil' : (i : Int) < (C.length : Int) := by omega
      go_upto_region 4 with fail
      refine wp_unt (S := fun V => Below wc.heap.size wc V) 12 (by kernel_rfl) ?_
      have HS0 : Hid (Below wc.heap.size wc wc.drew) := (Below.refl _ _).drew
      have HOW : Hid ((wc.drew.alloc (.cells #[.int .i64 (a : Int), .int .i64 (k : Int), .int .i64 c.2] 65)).ownsRow w0.heap.size 65 3 (.slice la L.length lc) L.length (rwCells L)) := own_below HLC.out (al HS0.out _)
      have HSW : Hid (w0.heap.size ≤ (wc.drew.alloc (.cells #[.int .i64 (a : Int), .int .i64 (k : Int), .int .i64 c.2] 65)).heap.size) := (XC.out.trans ((al HS0.out (.cells #[.int .i64 (a : Int), .int .i64 (k : Int), .int .i64 c.2] 65)).mono XC.out.size)).size
      have HXB : Hid (Below w0.heap.size w0 (wc.drew.alloc (.cells #[.int .i64 (a : Int), .int .i64 (k : Int), .int .i64 c.2] 65))) := XC.out.trans ((al HS0.out (.cells #[.int .i64 (a : Int), .int .i64 (k : Int), .int .i64 c.2] 65)).mono XC.out.size)
      have HNW : Hid (∀ (j : Nat) (u : Value), [Value.int .i64 (a : Int), .int .i64 (k : Int), .int .i64 c.2][j]? = some u → (wc.drew.alloc (.cells #[.int .i64 (a : Int), .int .i64 (k : Int), .int .i64 c.2] 65)).cell? ((⟨wc.drew.heap.size, 0, none⟩ : Addr).add j) = some u) := three_new _ _ _ _
      have HAL : Hid (Below wc.heap.size wc (wc.drew.alloc (.cells #[.int .i64 (a : Int), .int .i64 (k : Int), .int .i64 c.2] 65))) := al HS0.out _
      generalize wc.drew = wd at *
      refine UntH.take (i := 0) (some 40) rfl rfl (by kernel_rfl) (by kernel_rfl) (by kernel_rfl) (by kernel_rfl) (fun _ _ _ _ h => h) (by rfl) HS0.out ?_
      apply Exists.intro
      refine ⟨fun w' hw' => ?_, ?_⟩
      · obtain ⟨q1, q2, q3, q4⟩ := HRD.out w' hw'
        go_simp
        first | done | rfl
      try simp only [Act.put, List.setIfInBounds_toArray, List.set_cons_zero, List.set_cons_succ]
      refine UntH.take (i := 1) (some 41) rfl rfl (by kernel_rfl) (by kernel_rfl) (by kernel_rfl) (by kernel_rfl) (fun _ _ _ _ h => h) (by rfl) HS0.out ?_
      apply Exists.intro
      refine ⟨fun w' hw' => ?_, ?_⟩
      · obtain ⟨q1, q2, q3, q4⟩ := HRD.out w' hw'
        go_simp
        first | done | rfl
      try simp only [Act.put, List.setIfInBounds_toArray, List.set_cons_zero, List.set_cons_succ]
      refine UntH.take (i := 2) (some 42) rfl rfl (by kernel_rfl) (by kernel_rfl) (by kernel_rfl) (by kernel_rfl) (fun _ _ _ _ h => h) (by rfl) HS0.out ?_
      apply Exists.intro
      refine ⟨fun w' hw' => ?_, ?_⟩
      · obtain ⟨q1, q2, q3, q4⟩ := HRD.out w' hw'
        go_simp
        first | done | rfl
      try simp only [Act.put, List.setIfInBounds_toArray, List.set_cons_zero, List.set_cons_succ]
      refine UntH.take (i := 3) (some 43) rfl rfl (by kernel_rfl) (by kernel_rfl) (by kernel_rfl) (by kernel_rfl) (fun _ _ _ _ h => h) (by rfl) HS0.out ?_
      apply Exists.intro
      refine ⟨fun w' hw' => ?_, ?_⟩
      · obtain ⟨q1, q2, q3, q4⟩ := HRD.out w' hw'
        go_simp
        first | done | rfl
      try simp only [Act.put, List.setIfInBounds_toArray, List.set_cons_zero, List.set_cons_succ]
      refine UntH.take (i := 4) (some 44) rfl rfl (by kernel_rfl) (by kernel_rfl) (by kernel_rfl) (by kernel_rfl) (fun _ _ _ _ h => h) (by rfl) HS0.out ?_
      apply Exists.intro
      refine ⟨fun w' hw' => ?_, ?_⟩
      · obtain ⟨q1, q2, q3, q4⟩ := HRD.out w' hw'
        go_simp
        first | done | rfl
      try simp only [Act.put, List.setIfInBounds_toArray, List.set_cons_zero, List.set_cons_succ]
      refine UntH.take (i := 5) (some 45) rfl rfl (by kernel_rfl) (by kernel_rfl) (by kernel_rfl) (by kernel_rfl) (fun _ _ _ _ h => h) (by rfl) HS0.out ?_
      apply Exists.intro
      refine ⟨fun w' hw' => ?_, ?_⟩
      · obtain ⟨q1, q2, q3, q4⟩ := HRD.out w' hw'
        go_simp
        first | done | rfl
      try simp only [Act.put, List.setIfInBounds_toArray, List.set_cons_zero, List.set_cons_succ]
      refine UntH.take (i := 6) (some 46) rfl rfl (by kernel_rfl) (by kernel_rfl) (by kernel_rfl) (by kernel_rfl) (fun _ _ _ _ h => h) (by rfl) HS0.out ?_
      apply Exists.intro
      refine ⟨fun w' hw' => ?_, ?_⟩
      · obtain ⟨q1, q2, q3, q4⟩ := HRD.out w' hw'
        go_simp
        first | done | rfl
      try simp only [Act.put, List.setIfInBounds_toArray, List.set_cons_zero, List.set_cons_succ]
      refine UntH.take (i := 7) (some 47) rfl rfl (by kernel_rfl) (by kernel_rfl) (by kernel_rfl) (by kernel_rfl) (fun _ _ _ _ h => h) (by rfl) HS0.out ?_
      apply Exists.intro
      refine ⟨fun w' hw' => ?_, ?_⟩
      · obtain ⟨q1, q2, q3, q4⟩ := HRD.out w' hw'
        go_simp
        first | done | rfl
      try simp only [Act.put, List.setIfInBounds_toArray, List.set_cons_zero, List.set_cons_succ]
      refine UntH.take (i := 8) (some 48) rfl rfl (by kernel_rfl) (by kernel_rfl) (by kernel_rfl) (by kernel_rfl) (fun _ _ _ _ h => h) (by rfl) HS0.out ?_
      apply Exists.intro
      refine ⟨fun w' hw' => ?_, ?_⟩
      · obtain ⟨q1, q2, q3, q4⟩ := HRD.out w' hw'
        go_simp
        first | done | rfl
      try simp only [Act.put, List.setIfInBounds_toArray, List.set_cons_zero, List.set_cons_succ]
      refine UntH.take (i := 9) (some 49) rfl rfl (by kernel_rfl) (by kernel_rfl) (by kernel_rfl) (by kernel_rfl) (fun _ _ _ _ h => h) (by rfl) HS0.out ?_
      apply Exists.intro
      refine ⟨fun w' hw' => ?_, ?_⟩
      · obtain ⟨q1, q2, q3, q4⟩ := HRD.out w' hw'
        go_simp
        first | done | rfl
      try simp only [Act.put, List.setIfInBounds_toArray, List.set_cons_zero, List.set_cons_succ]
      refine UntH.take (i := 10) (some 50) rfl rfl (by kernel_rfl) (by kernel_rfl) (by kernel_rfl) (by kernel_rfl) (fun _ _ _ _ h => h) (by rfl) HS0.out ?_
      apply Exists.intro
      refine ⟨fun w' hw' => ?_, ?_⟩
      · obtain ⟨q1, q2, q3, q4⟩ := HRD.out w' hw'
        go_simp
        first | done | rfl
      try simp only [Act.put, List.setIfInBounds_toArray, List.set_cons_zero, List.set_cons_succ]
      refine UntH.step (i := 11) (by kernel_rfl) rfl (fun K hK => ?_)
      go_simp
      refine hK _ _ HAL.out ?_
      clear hK K
      refine UntH.stepf (i := 12) (by kernel_rfl) rfl (by kernel_rfl) (fun K hK => ?_)
      refine step_append_lies _ (by rfl) (.tmp 40) (.tmp 51) 44 (by rfl) w0.heap.size 65 i65 (.agg #[.int .i64 0, .int .i64 0, .int .i64 0]) 3 24 Try.underlying44 hi65 hz0 hz1 hz2 rfl (by decide) _ L.length (rwCells L) (by rfl) HOW.out ⟨wd.heap.size, 0, none⟩ 1 1 [.int .i64 (a : Int), .int .i64 (k : Int), .int .i64 c.2] (by rfl) (by rfl) HNW.out (by simp [Value.oneCell']) (by decide) (by unfold maxLen; omega) (by omega) HSW.out _ rfl ?_
      intro g6 cap6 w6 h1 h2 h3 h4
      have X6 := hide (HXB.out.trans ((kept_of_grown h2).below HXB.out.size (fun j hj => (World.ownsRow.lt HOW.out j hj).1)))
      have K6 := hide (KC.out.trans ((KeepT.below HAL.out).trans (KeepT.kept (kept_of_grown h2) (fun j hj => by obtain ⟨cs, h⟩ := own_ty HOW.out j hj; exact ⟨cs, 65, _, h, .inr rfl⟩))))
      have R6 : Hid (OwnR w6 w0.heap.size (.slice (some ⟨g6, 0, none⟩) (L.length + 1) cap6) (L ++ [((a, k), c.2)])) := by
        unfold Hid OwnR
        rw [List.length_append, rwCells_snoc]
        exact h1
      refine hK _ _ ?_
      clear hK K h1 h2 h3 h4
      refine UntH.stepf (i := 13) (by kernel_rfl) rfl (by kernel_rfl) (fun K hK => ?_)
      go_simp
      refine hK _ _ ?_
      clear hK K
      refine UntH.end (by kernel_rfl) ?_
      go_wp2
      go_ret
      refine ⟨⟨_, rfl, ?_⟩, X6.out, K6.out⟩
      have := HCS.out
      rw [HSD.out] at this
      rw [rowsF_cst d k this, HGA.out]
      exact R6.out
    | false =>
      have HCS : Hid (¬ Cst g a S) := fun h => by have := HBO.out.2 h; cases this
      clear HBO
      obtain ⟨d', hd'⟩ : ∃ d', d = d' + 1 := by
        cases d with
        | zero =>
          exfalso
          refine HCS.out (fun n h1 h2 => ?_)
          have : S = 1 := HSD.out
          have : n = a := by omega
          rw [this]
        | succ d' => exact ⟨d', rfl⟩
      have IH2 := hide (HIH.out d' hd')
      have hS2 : S = 2 * 2 ^ d' := by rw [HSD.out, hd', Nat.pow_succ, Nat.mul_comm]
      obtain ⟨T, hT⟩ : ∃ T, T = 2 ^ d' := ⟨_, rfl⟩
      rw [← hT] at hS2
      have p0 : wc.cell? ⟨P, 0, none⟩ = some (.int .i64 (a : Int)) := by rw [cell_of_row _ _ _ _ _ _ HPC.out]; rfl
      have p1 : wc.cell? ⟨P, 1, none⟩ = some (.int .i64 (k : Int)) := by rw [cell_of_row _ _ _ _ _ _ HPC.out]; rfl
      have hPc : P < wc.heap.size := lt_of_block HPC.out
      obtain ⟨k2, hk2⟩ : ∃ k2, k2 = k + 1 := ⟨_, rfl⟩
      obtain ⟨A2, hA2⟩ : ∃ A2, A2 = a + T := ⟨_, rfl⟩
      have f3 : IntKind.i64.wrap ((k : Int) + 1) = (k2 : Int) := by have := HK.out; rw [hk2]; rw [show (k : Int) + 1 = ((k + 1 : Nat) : Int) by simp]; simp [IntKind.wrap, IntKind.bits, IntKind.signed]; omega
      have f4 : (S : Int).tdiv 2 = (T : Int) := by rw [Int.tdiv_eq_ediv_of_nonneg (by omega)]; omega
      have f5 : IntKind.i64.wrap (T : Int) = (T : Int) := by simp [IntKind.wrap, IntKind.bits, IntKind.signed]; omega
      have f6 : IntKind.i64.wrap ((a : Int) + (T : Int)) = (A2 : Int) := by have := HAM.out; rw [← HSD.out] at this; rw [hA2]; rw [show (a : Int) + (T : Int) = ((a + T : Nat) : Int) by simp]; simp [IntKind.wrap, IntKind.bits, IntKind.signed]; omega
      have HKK := hide hk2
      have HAA := hide hA2
      have HC1 := hide (IH2.out a k2 L _ wc (by have := HK.out; omega) (by have := HAM.out; rw [← HSD.out, hS2] at this; rw [← hT]; omega) HLA.out XC.out HLC.out)
      have HTD := hide hT
      have HD2 := hide hd'
      have HS2 := hide hS2
      have hTS : T ≤ S := by omega
      clear hT hd' hS2 HIH hk2 hA2
      go_upto_region 6 with (go_at_call 52; refine HC1.out.mono ?_; rintro e w3 ⟨⟨l3, rfl, ho3⟩, x3, k3⟩; have HO3 := hide ho3; have X3 := hide x3; have K3 := hide k3; clear ho3 x3 k3)
      clear p0 p1 HC1
      have HP3 := hide (K3.out P _ _ _ (by decide) (by decide) HPC.out)
      have p0 : w3.cell? ⟨P, 0, none⟩ = some (.int .i64 (a : Int)) := by rw [cell_of_row _ _ _ _ _ _ HP3.out]; rfl
      have p1 : w3.cell? ⟨P, 1, none⟩ = some (.int .i64 (k : Int)) := by rw [cell_of_row _ _ _ _ _ _ HP3.out]; rfl
      have hPc : P < w3.heap.size := lt_of_block HP3.out
      have HC2 := hide (IH2.out A2 k2 (L ++ rowsF g d' a k2) l3 w3 (by have := HK.out; have := HD2.out; have := HKK.out; omega) (by have := HAM.out; rw [← HSD.out, HS2.out] at this; rw [← HTD.out, HAA.out]; omega) (by rw [List.length_append, HAA.out]; have := rowsF_len g d' a k2; rw [← HTD.out] at this; have := HLA.out; omega) X3.out HO3.out)
      obtain ⟨la3, lc3, e3, _⟩ := own_shape HO3.out
      subst e3
      generalize (L ++ rowsF g d' a k2).length = n3 at *
      go_wp2_with (go_at_call 52; refine HC2.out.mono ?_; rintro e w4 ⟨⟨l4, rfl, ho4⟩, x4, k4⟩; have HO4 := hide ho4; have X4 := hide x4; have K4 := hide k4; clear ho4 x4 k4)
      go_ret
      refine ⟨⟨_, rfl, ?_⟩, X4.out, KC.out.trans (K3.out.trans K4.out)⟩
      have h1 := HO4.out
      have h2 := HCS.out
      rw [HSD.out, HD2.out] at h2
      rw [HD2.out, rowsF_not d' k h2, ← List.append_assoc, ← HTD.out, ← HKK.out, ← HAA.out]
      exact h1
theorem rowsD_any {w0 : World} {b base : Nat} {v : Value} {C : List Ct} {g : Nat → Int} {m : Nat} (hm : m = 4294967296) (hz : Cz g m C) (hlC : C.length ≤ 4294967296) (hC0 : OwnC w0 base v C) (hb0 : w0.heap[b]? = some (.cells #[v] 78 (0, 0))) : ∀ d, RwC w0 b g m d
  | 0 => rowsD_step hm hz hlC hC0 hb0 0 (fun d' h => by omega)
  | d + 1 => rowsD_step hm hz hlC hC0 hb0 (d + 1) (fun d' h => by
    obtain rfl : d' = d := by omega
    exact rowsD_any hm hz hlC hC0 hb0 d')
end Go.Proofs.Ytnfdjbaafiifnaa
