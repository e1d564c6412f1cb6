/-
  read and Make by their contracts. Condition: a list is no longer than a process can hold.
-/
import Derived.Test.YtnfdjbaafiifnaaP16
import Derived.Deep.Cut
import Derived.Deep.CutRange
namespace Go.Proofs.Ytnfdjbaafiifnaa
open Go.RowKit Go.Lib

/-- A row as it may come in. -/
abbrev RZ := (Int × Int) × Int
/-- A list of rows that begins at ao. -/
def RwAt (w : World) (ao : Option Addr) (L : List RZ) : Prop := L = [] ∨ ∃ b off, ao = some ⟨b, off, none⟩ ∧ b < w.heap.size ∧ ∀ i, i < L.length → w.cell? ⟨b, off + i * 3, none⟩ = some (.int .i64 (L.getD i ((0, 0), 0)).1.1) ∧ w.cell? ⟨b, off + i * 3 + 1, none⟩ = some (.int .i64 (L.getD i ((0, 0), 0)).1.2) ∧ w.cell? ⟨b, off + i * 3 + 2, none⟩ = some (.int .i64 (L.getD i ((0, 0), 0)).2)
theorem RwAt.below {w w' : World} {ao : Option Addr} {L : List RZ} (h : RwAt w ao L) (hb : Below w.heap.size w w') : RwAt w' ao L := by
  rcases h with rfl | ⟨b, off, e, hlt, h⟩
  · exact .inl rfl
  · exact .inr ⟨b, off, e, Nat.lt_of_lt_of_le hlt hb.size, fun i hi => ⟨(hb.cell (p := ⟨b, _, none⟩) hlt).trans (h i hi).1, (hb.cell (p := ⟨b, _, none⟩) hlt).trans (h i hi).2.1, (hb.cell (p := ⟨b, _, none⟩) hlt).trans (h i hi).2.2⟩⟩
theorem RwAt.tail {w : World} {b off : Nat} {r : RZ} {L : List RZ} (h : RwAt w (some ⟨b, off, none⟩) (r :: L)) : RwAt w (some ⟨b, off + 3, none⟩) L := by
  rcases h with h | ⟨b', off', e, hlt, h⟩
  · cases h
  · injection e with e; injection e with e1 e2; subst e1 e2
    refine .inr ⟨b, off + 3, rfl, hlt, fun i hi => ?_⟩
    have := h (i + 1) (by simp; omega)
    rw [show off + (i + 1) * 3 = off + 3 + i * 3 by omega] at this
    simpa using this
/-- Which tree the head of a list is, and what is left. -/
def rdT : Nat → Nat → Nat → List RZ → Option (Tr × List RZ)
  | _, _, _, [] => none
  | d, a, k, r :: L => if r.1 = ((a : Int), (k : Int)) then (if Lab r.2 then some (.leaf r.2, L) else none) else
    match d with
    | 0 => none
    | d + 1 => match rdT d a (k + 1) (r :: L) with
      | none => none
      | some (x, L1) => match rdT d (a + 2 ^ (31 - k)) (k + 1) L1 with
        | none => none
        | some (y, L2) => if (jn x y).isLeaf = true then none else some (jn x y, L2)
theorem rdT_len : ∀ {d a k : Nat} {L L' : List RZ} {t : Tr}, rdT d a k L = some (t, L') → L'.length ≤ L.length
  | _, _, _, [], _, _, h => by simp [rdT] at h
  | 0, a, k, r :: L, L', t, h => by
    unfold rdT at h
    split at h
    · split at h
      · injection h with h; injection h with _ h; subst h; simp
      · cases h
    · cases h
  | d + 1, a, k, r :: L, L', t, h => by
    unfold rdT at h
    split at h
    · split at h
      · injection h with h; injection h with _ h; subst h; simp
      · cases h
    · simp only at h
      split at h
      · cases h
      · rename_i h1
        split at h
        · cases h
        · rename_i h2
          split at h
          · cases h
          · injection h with h; injection h with _ h; subst h
            exact Nat.le_trans (rdT_len h2) (rdT_len h1)
def RdIs (a k : Nat) (L : List RZ) (w : World) (e : Ending) (w' : World) : Prop := Below w.heap.size w w' ∧
  ((∃ t L' p ao cap, rdT (32 - k) a k L = some (t, L') ∧ e = .returned (.tuple #[.pointer (some p), .slice ao L'.length cap, .bool true]) ∧ NodeAt w' t (.pointer (some p)) ∧ RwAt w' ao L' ∧ L'.length ≤ cap) ∨
   (rdT (32 - k) a k L = none ∧ ∃ p ao n cap, e = .returned (.tuple #[.pointer p, .slice ao n cap, .bool false])))

set_option maxRecDepth 100000 in
set_option maxHeartbeats 4000000 in
theorem read_any : ∀ (d a k : Nat) (L : List RZ) (ao : Option Addr) (cap : Nat) (w : World), k + d = 32 → a + 2 ^ d ≤ 4294967296 → L.length ≤ 140737488351232 → L.length ≤ cap → RwAt w ao L →
    Calls Try.prog 42 #[.slice ao L.length cap, .agg #[.int .i64 a, .int .i64 k]] w fun e w' => RdIs a k L w e w'
  | d, a, k, [], ao, cap, w, hd, ha, hl, hcap, hat => by
    have hN : rdT (32 - k) a k [] = none := by unfold rdT; rfl
    have HN := hide hN
    clear hN
    go_enter Try.func42, Try.ntmps42
    go_wp2
    go_ret3
    exact ⟨al (Below.refl _ _) _, .inr ⟨HN.out, _, _, _, _, rfl⟩⟩
  | d, a, k, r :: L, ao, cap, w, hd, ha, hl, hcap, hat => by
    rcases hat with h | ⟨b, off, rfl, hb, hc⟩
    · cases h
    have HAT : Hid (RwAt w (some ⟨b, off, none⟩) (r :: L)) := .inr ⟨b, off, rfl, hb, hc⟩
    obtain ⟨c0, c1, c2⟩ := hc 0 (by simp)
    simp only [Nat.zero_mul, Nat.add_zero, List.getD_cons_zero] at c0 c1 c2
    obtain ⟨⟨ra, rk⟩, rl⟩ := r
    simp only at c0 c1 c2
    simp only [List.length_cons] at hl hcap ⊢
    have hX : Below w.heap.size w (w.alloc (.cells #[.int .i64 a, .int .i64 k] 42)) := al (Below.refl _ _) _
    have hP := heap_alloc_new w (.cells #[.int .i64 a, .int .i64 k] 42)
    have d0 := (hX.cell (p := ⟨b, off, none⟩) hb).trans c0
    have d1 := (hX.cell (p := ⟨b, off + 1, none⟩) hb).trans c1
    have d2 := (hX.cell (p := ⟨b, off + 2, none⟩) hb).trans c2
    have e0 : (w.alloc (.cells #[.int .i64 a, .int .i64 k] 42)).cell? ⟨w.heap.size, 0, none⟩ = some (.int .i64 a) := by rw [cell_of_row _ w.heap.size 0 _ _ _ hP]; rfl
    have e1 : (w.alloc (.cells #[.int .i64 a, .int .i64 k] 42)).cell? ⟨w.heap.size, 1, none⟩ = some (.int .i64 k) := by rw [cell_of_row _ w.heap.size 1 _ _ _ hP]; rfl
    have HX := hide hX
    have HP := hide hP
    have hl0 : ¬ ((L.length : Int) + 1 = 0) := by omega
    clear c0 c1 c2 hX hP hc
    by_cases he : ra = (a : Int) ∧ rk = (k : Int)
    · obtain ⟨rfl, rfl⟩ := he
      have HRD : Hid (rdT (32 - k) a k ((((a : Int), (k : Int)), rl) :: L) = if Lab rl then some (.leaf rl, L) else none) := by unfold Hid rdT; rw [if_pos rfl]
      have hwh := fun W => Go.Proofs.Ytnfdjbaafiifnaa.whole_any rl W
      have hlab := fun W => isLabel_any rl W
      by_cases hc1 : cap = 1
      · subst hc1
        obtain rfl : L = [] := List.eq_nil_of_length_eq_zero (by omega)
        simp only [List.length_nil] at hl0 hcap hl ⊢
        by_cases hb1 : Lab rl
        · simp only [decide_eq_true hb1] at hlab
          rw [if_pos hb1] at HRD
          go_enter Try.func42, Try.ntmps42
          go_wp2
          generalize w.alloc (.cells #[.int .i64 a, .int .i64 k] 42) = W at *
          have hbW : b < W.heap.size := Nat.lt_of_lt_of_le hb HX.out.size
          go_quiet (fail)
          go_wp2
          go_region_held3 (fun w' => w'.cell? ⟨b, off + 2, none⟩ = some (.int .i64 rl)) (first | assumption | (simp [go_sem, *]; done))
            (first
              | (go_at_call 26; refine (hwh _).mono ?_; rintro e w3 ⟨⟨r3, rfl, n3⟩, x3⟩; obtain ⟨b3, _, _, rfl, _⟩ := n3.shape; have N3 := hide n3; have y3 : Below W.heap.size W w3 := (((below_drewN _ _ _).trans (Below.refl _ _).drew).trans x3); have X3 := hide y3; have g3 : w3.cell? ⟨b, off + 2, none⟩ = some (.int .i64 rl) := (y3.cell (p := ⟨b, off + 2, none⟩) hbW).trans d2; clear n3 x3 y3)
              | (go_at_call 25; refine (hlab _).mono ?_; rintro e w4 ⟨rfl, hw4⟩; subst hw4))
          go_wp2
          go_ret3
          exact ⟨bt HX.out X3.out (Nat.le_refl _), .inl ⟨_, [], _, _, _, HRD.out, rfl, N3.out, .inl rfl, Nat.le_refl _⟩⟩
        · simp only [decide_eq_false hb1] at hlab
          rw [if_neg hb1] at HRD
          go_enter Try.func42, Try.ntmps42
          go_wp2
          generalize w.alloc (.cells #[.int .i64 a, .int .i64 k] 42) = W at *
          have hbW : b < W.heap.size := Nat.lt_of_lt_of_le hb HX.out.size
          go_quiet (fail)
          go_wp2
          go_region_held3 (fun w' => w'.cell? ⟨b, off + 2, none⟩ = some (.int .i64 rl)) (first | assumption | (simp [go_sem, *]; done))
            (first
              | (go_at_call 26; refine (hwh _).mono ?_; rintro e w3 ⟨⟨r3, rfl, n3⟩, x3⟩; obtain ⟨b3, _, _, rfl, _⟩ := n3.shape; have N3 := hide n3; have y3 : Below W.heap.size W w3 := (((below_drewN _ _ _).trans (Below.refl _ _).drew).trans x3); have X3 := hide y3; have g3 : w3.cell? ⟨b, off + 2, none⟩ = some (.int .i64 rl) := (y3.cell (p := ⟨b, off + 2, none⟩) hbW).trans d2; clear n3 x3 y3)
              | (go_at_call 25; refine (hlab _).mono ?_; rintro e w4 ⟨rfl, hw4⟩; subst hw4))
          go_wp2
          go_ret3
          exact ⟨bt HX.out X3.out (Nat.le_refl _), .inr ⟨HRD.out, _, _, _, _, rfl⟩⟩
      · have hs1 : (1 : Int) ≤ (L.length : Int) + 1 := by omega
        have hs2 : (0 : Int) ≤ (L.length : Int) := by omega
        by_cases hb1 : Lab rl
        · simp only [decide_eq_true hb1] at hlab
          rw [if_pos hb1] at HRD
          go_enter Try.func42, Try.ntmps42
          go_wp2
          generalize w.alloc (.cells #[.int .i64 a, .int .i64 k] 42) = W at *
          have hbW : b < W.heap.size := Nat.lt_of_lt_of_le hb HX.out.size
          go_quiet (fail)
          go_wp2
          go_region_held3 (fun w' => w'.cell? ⟨b, off + 2, none⟩ = some (.int .i64 rl)) (first | assumption | (simp [go_sem, *]; done))
            (first
              | (go_at_call 26; refine (hwh _).mono ?_; rintro e w3 ⟨⟨r3, rfl, n3⟩, x3⟩; obtain ⟨b3, _, _, rfl, _⟩ := n3.shape; have N3 := hide n3; have y3 : Below W.heap.size W w3 := (((below_drewN _ _ _).trans (Below.refl _ _).drew).trans x3); have X3 := hide y3; have g3 : w3.cell? ⟨b, off + 2, none⟩ = some (.int .i64 rl) := (y3.cell (p := ⟨b, off + 2, none⟩) hbW).trans d2; clear n3 x3 y3)
              | (go_at_call 25; refine (hlab _).mono ?_; rintro e w4 ⟨rfl, hw4⟩; subst hw4))
          go_wp2
          go_ret3
          exact ⟨bt HX.out X3.out (Nat.le_refl _), .inl ⟨_, L, _, _, _, HRD.out, rfl, N3.out, HAT.out.tail.below (bt HX.out X3.out (Nat.le_refl _)), by omega⟩⟩
        · simp only [decide_eq_false hb1] at hlab
          rw [if_neg hb1] at HRD
          go_enter Try.func42, Try.ntmps42
          go_wp2
          generalize w.alloc (.cells #[.int .i64 a, .int .i64 k] 42) = W at *
          have hbW : b < W.heap.size := Nat.lt_of_lt_of_le hb HX.out.size
          go_quiet (fail)
          go_wp2
          go_region_held3 (fun w' => w'.cell? ⟨b, off + 2, none⟩ = some (.int .i64 rl)) (first | assumption | (simp [go_sem, *]; done))
            (first
              | (go_at_call 26; refine (hwh _).mono ?_; rintro e w3 ⟨⟨r3, rfl, n3⟩, x3⟩; obtain ⟨b3, _, _, rfl, _⟩ := n3.shape; have N3 := hide n3; have y3 : Below W.heap.size W w3 := (((below_drewN _ _ _).trans (Below.refl _ _).drew).trans x3); have X3 := hide y3; have g3 : w3.cell? ⟨b, off + 2, none⟩ = some (.int .i64 rl) := (y3.cell (p := ⟨b, off + 2, none⟩) hbW).trans d2; clear n3 x3 y3)
              | (go_at_call 25; refine (hlab _).mono ?_; rintro e w4 ⟨rfl, hw4⟩; subst hw4))
          go_wp2
          go_ret3
          exact ⟨bt HX.out X3.out (Nat.le_refl _), .inr ⟨HRD.out, _, _, _, _, rfl⟩⟩
    · have HNE := hide he
      match d, hd, ha with
      | 0, hd, ha =>
        have HRD : Hid (rdT (32 - k) a k (((ra, rk), rl) :: L) = none) := by
          unfold Hid rdT
          rw [if_neg (fun h => HNE.out (by simpa using h)), show 32 - k = 0 by omega]
        by_cases h1 : ra = (a : Int)
        · have h2 : ¬ rk = (k : Int) := fun h => he ⟨h1, h⟩
          subst h1
          clear he d2
          go_enter Try.func42, Try.ntmps42
          go_wp2
          generalize w.alloc (.cells #[.int .i64 a, .int .i64 k] 42) = W at *
          go_quiet (fail)
          have hk : (k : Int) = 32 := by omega
          go_wp2
          go_ret3
          exact ⟨bt HX.out (below_drewN _ _ _) (Nat.le_refl _), .inr ⟨HRD.out, _, _, _, _, rfl⟩⟩
        · clear he d2
          go_enter Try.func42, Try.ntmps42
          go_wp2
          generalize w.alloc (.cells #[.int .i64 a, .int .i64 k] 42) = W at *
          go_quiet (fail)
          have hk : (k : Int) = 32 := by omega
          go_wp2
          go_ret3
          exact ⟨bt HX.out (below_drewN _ _ _) (Nat.le_refl _), .inr ⟨HRD.out, _, _, _, _, rfl⟩⟩
      | d + 1, hd, ha =>
        rw [Nat.pow_succ] at ha
        have hpd : 0 < 2 ^ d := Nat.pow_pos (by decide)
        have hk31 : k ≤ 31 := by omega
        have hdk : 31 - k = d := by omega
        have hh := fun W => halvesOf_any a k (by omega) hk31 W
        have HRD : Hid (rdT (32 - k) a k (((ra, rk), rl) :: L) = match rdT d a (k + 1) (((ra, rk), rl) :: L) with
          | none => none
          | some (x, L1) => match rdT d (a + 2 ^ (31 - k)) (k + 1) L1 with
            | none => none
            | some (y, L2) => if (jn x y).isLeaf = true then none else some (jn x y, L2)) := by
          unfold Hid
          conv => lhs; unfold rdT
          rw [if_neg (fun h => HNE.out (by simpa using h)), show 32 - k = d + 1 by omega]
        have ih1 := fun W (x : Below w.heap.size w W) => read_any d a (k + 1) (((ra, rk), rl) :: L) (some ⟨b, off, none⟩) cap W (by omega) (by omega) (by simp; omega) (by simp; omega) (HAT.out.below x)
        have ih2 := fun (L1 : List RZ) (a1 : Option Addr) (c1 : Nat) W (h1 : L1.length ≤ 140737488351232) (h2 : L1.length ≤ c1) (h3 : RwAt W a1 L1) => read_any d (a + 2 ^ (31 - k)) (k + 1) L1 a1 c1 W (by omega) (by rw [hdk]; omega) h1 h2 h3
        have HE32 : Hid (32 - (k + 1) = d) := by unfold Hid; omega
        simp only [RdIs, HE32.out] at ih1 ih2
        obtain ⟨m, HM⟩ : ∃ m, Hid (m = k + 1) := ⟨_, rfl⟩
        obtain ⟨c, HCc⟩ : ∃ c, Hid (c = a + 2 ^ (31 - k)) := ⟨_, rfl⟩
        simp only [← HM.out, ← HCc.out, List.length_cons] at hh ih1 ih2 HRD
        have HI1 := hide ih1
        have HI2 := hide ih2
        clear ih1 ih2 hdk hpd ha
        by_cases h1 : ra = (a : Int)
        · have h2 : ¬ rk = (k : Int) := fun h => he ⟨h1, h⟩
          subst h1
          clear he d2
          go_enter Try.func42, Try.ntmps42
          go_wp2
          generalize w.alloc (.cells #[.int .i64 a, .int .i64 k] 42) = W at *
          go_quiet (fail)
          have hk : ¬ (k : Int) = 32 := by omega
          go_wp2_with (first
            | (go_at_call 55; refine (hh _).mono ?_; rintro e w2 ⟨rfl, x2⟩; have X2 := hide (bt (bt HX.out (below_drewN _ _ _) (Nat.le_refl _)) x2 (Nat.le_refl _)); clear x2))
          have Y2 := hide (al (al X2.out (.cells #[.int .i64 a, .int .i64 m] 42)) (.cells #[.int .i64 c, .int .i64 m] 42))
          have H2 : Hid (((w2.alloc (.cells #[.int .i64 a, .int .i64 m] 42)).alloc (.cells #[.int .i64 c, .int .i64 m] 42)).heap[w2.heap.size + 1]? = some (.cells #[.int .i64 c, .int .i64 m] 42 (0, 0))) := by
            have := heap_alloc_new (w2.alloc (.cells #[.int .i64 a, .int .i64 m] 42)) (.cells #[.int .i64 c, .int .i64 m] 42)
            rwa [show (w2.alloc (.cells #[.int .i64 a, .int .i64 m] 42)).heap.size = w2.heap.size + 1 by simp] at this
          refine (HI1.out _ Y2.out).mono ?_
          rintro e w3 ⟨x3, h3⟩
          have X3 := hide (bt Y2.out x3 (Nat.le_refl _))
          have H3 := hide ((x3.block _ (lt_of_block H2.out)).trans H2.out)
          have f2 : w3.cell? ⟨w2.heap.size + 1, 0, none⟩ = some (.int .i64 c) := by rw [cell_of_row w3 (w2.heap.size + 1) 0 _ _ _ H3.out]; rfl
          have f3 : w3.cell? ⟨w2.heap.size + 1, 1, none⟩ = some (.int .i64 m) := by rw [cell_of_row w3 (w2.heap.size + 1) 1 _ _ _ H3.out]; rfl
          clear x3 d0 d1 e0 e1
          rcases h3 with ⟨t3, L3, p3, a3, c3, r3, rfl, n3, at3, hc3⟩ | ⟨r3, p3, a3, n3, c3, rfl⟩
          · have N3 := hide n3
            have hi2 := HI2.out L3 a3 c3 w3 (by have := rdT_len r3; simp at this; omega) hc3 at3
            rw [r3] at HRD
            simp only at HRD
            clear n3 at3 r3 HI1 HI2
            go_wp2_with (fail)
            refine hi2.mono ?_
            rintro e w4 ⟨x4, h4⟩
            have X4 := hide (bt X3.out x4 (Nat.le_refl _))
            clear f2 f3 hi2
            rcases h4 with ⟨t4, L4, p4, a4, c4, r4, rfl, n4, at4, hc4⟩ | ⟨r4, p4, a4, n4, c4, rfl⟩
            · have hj := joined_any w4 (N3.out.below x4) n4
              have AT4 := hide at4
              have HC4 := hide hc4
              rw [r4] at HRD
              simp only at HRD
              clear n4 at4 r4 x4 hc4
              go_wp2_with (first
                | (go_at_call 58; refine hj.mono ?_; rintro e w5 ⟨⟨r5, rfl, n5⟩, x5⟩; have hw5 := isWhole_any w5 n5; obtain ⟨b5, _, _, rfl, _⟩ := n5.shape; have N5 := hide n5; have X5 := hide (bt X4.out x5 (Nat.le_refl _)); have AT5 := hide (AT4.out.below x5); clear n5 x5 hj)
                | (go_at_call 54; refine hw5.mono ?_; rintro e w6 ⟨rfl, hw6⟩; subst hw6; clear hw5))
              go_ret3
              cases hjl : (jn t3 t4).isLeaf with
              | true =>
                rw [hjl, if_pos rfl] at HRD
                exact ⟨X5.out, .inr ⟨HRD.out, _, _, _, _, rfl⟩⟩
              | false =>
                rw [hjl, if_neg (by decide)] at HRD
                exact ⟨X5.out, .inl ⟨_, _, _, _, _, HRD.out, rfl, N5.out, AT5.out, HC4.out⟩⟩
            · rw [r4] at HRD
              simp only at HRD
              clear r4 x4
              go_wp2
              go_ret3
              exact ⟨X4.out, .inr ⟨HRD.out, _, _, _, _, rfl⟩⟩
          · rw [r3] at HRD
            simp only at HRD
            clear r3 f2 f3
            go_wp2
            go_ret3
            exact ⟨X3.out, .inr ⟨HRD.out, _, _, _, _, rfl⟩⟩
        · clear he d2
          go_enter Try.func42, Try.ntmps42
          go_wp2
          generalize w.alloc (.cells #[.int .i64 a, .int .i64 k] 42) = W at *
          go_quiet (fail)
          have hk : ¬ (k : Int) = 32 := by omega
          go_wp2_with (first
            | (go_at_call 55; refine (hh _).mono ?_; rintro e w2 ⟨rfl, x2⟩; have X2 := hide (bt (bt HX.out (below_drewN _ _ _) (Nat.le_refl _)) x2 (Nat.le_refl _)); clear x2))
          have Y2 := hide (al (al X2.out (.cells #[.int .i64 a, .int .i64 m] 42)) (.cells #[.int .i64 c, .int .i64 m] 42))
          have H2 : Hid (((w2.alloc (.cells #[.int .i64 a, .int .i64 m] 42)).alloc (.cells #[.int .i64 c, .int .i64 m] 42)).heap[w2.heap.size + 1]? = some (.cells #[.int .i64 c, .int .i64 m] 42 (0, 0))) := by
            have := heap_alloc_new (w2.alloc (.cells #[.int .i64 a, .int .i64 m] 42)) (.cells #[.int .i64 c, .int .i64 m] 42)
            rwa [show (w2.alloc (.cells #[.int .i64 a, .int .i64 m] 42)).heap.size = w2.heap.size + 1 by simp] at this
          refine (HI1.out _ Y2.out).mono ?_
          rintro e w3 ⟨x3, h3⟩
          have X3 := hide (bt Y2.out x3 (Nat.le_refl _))
          have H3 := hide ((x3.block _ (lt_of_block H2.out)).trans H2.out)
          have f2 : w3.cell? ⟨w2.heap.size + 1, 0, none⟩ = some (.int .i64 c) := by rw [cell_of_row w3 (w2.heap.size + 1) 0 _ _ _ H3.out]; rfl
          have f3 : w3.cell? ⟨w2.heap.size + 1, 1, none⟩ = some (.int .i64 m) := by rw [cell_of_row w3 (w2.heap.size + 1) 1 _ _ _ H3.out]; rfl
          clear x3 d0 d1 e0 e1
          rcases h3 with ⟨t3, L3, p3, a3, c3, r3, rfl, n3, at3, hc3⟩ | ⟨r3, p3, a3, n3, c3, rfl⟩
          · have N3 := hide n3
            have hi2 := HI2.out L3 a3 c3 w3 (by have := rdT_len r3; simp at this; omega) hc3 at3
            rw [r3] at HRD
            simp only at HRD
            clear n3 at3 r3 HI1 HI2
            go_wp2_with (fail)
            refine hi2.mono ?_
            rintro e w4 ⟨x4, h4⟩
            have X4 := hide (bt X3.out x4 (Nat.le_refl _))
            clear f2 f3 hi2
            rcases h4 with ⟨t4, L4, p4, a4, c4, r4, rfl, n4, at4, hc4⟩ | ⟨r4, p4, a4, n4, c4, rfl⟩
            · have hj := joined_any w4 (N3.out.below x4) n4
              have AT4 := hide at4
              have HC4 := hide hc4
              rw [r4] at HRD
              simp only at HRD
              clear n4 at4 r4 x4 hc4
              go_wp2_with (first
                | (go_at_call 58; refine hj.mono ?_; rintro e w5 ⟨⟨r5, rfl, n5⟩, x5⟩; have hw5 := isWhole_any w5 n5; obtain ⟨b5, _, _, rfl, _⟩ := n5.shape; have N5 := hide n5; have X5 := hide (bt X4.out x5 (Nat.le_refl _)); have AT5 := hide (AT4.out.below x5); clear n5 x5 hj)
                | (go_at_call 54; refine hw5.mono ?_; rintro e w6 ⟨rfl, hw6⟩; subst hw6; clear hw5))
              go_ret3
              cases hjl : (jn t3 t4).isLeaf with
              | true =>
                rw [hjl, if_pos rfl] at HRD
                exact ⟨X5.out, .inr ⟨HRD.out, _, _, _, _, rfl⟩⟩
              | false =>
                rw [hjl, if_neg (by decide)] at HRD
                exact ⟨X5.out, .inl ⟨_, _, _, _, _, HRD.out, rfl, N5.out, AT5.out, HC4.out⟩⟩
            · rw [r4] at HRD
              simp only at HRD
              clear r4 x4
              go_wp2
              go_ret3
              exact ⟨X4.out, .inr ⟨HRD.out, _, _, _, _, rfl⟩⟩
          · rw [r3] at HRD
            simp only at HRD
            clear r3 f2 f3
            go_wp2
            go_ret3
            exact ⟨X3.out, .inr ⟨HRD.out, _, _, _, _, rfl⟩⟩
end Go.Proofs.Ytnfdjbaafiifnaa
