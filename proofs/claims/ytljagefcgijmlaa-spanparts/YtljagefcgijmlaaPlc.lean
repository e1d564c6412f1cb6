/-
  The document's places, walked: 0, all ends, what is behind all numbers, rising, each once. Condition: the lists have fewer than 2^32 spans together.
-/
import Derived.Test.YtljagefcgijmlaaRis2
import Derived.Test.YtljagefcgijmlaaJoin1
import Derived.Deep.RegionHeld3
namespace Go.Proofs.Ytljagefcgijmlaa
open Go.RowKit Go.Lib

def endsZ (L : List Spn) : List Int := L.flatMap fun s => [s.1, s.2 + 1]
theorem endsZ_append (L M : List Spn) : endsZ (L ++ M) = endsZ L ++ endsZ M := by simp [endsZ]
theorem endsZ_length (L : List Spn) : (endsZ L).length = L.length * 2 := by
  induction L with
  | nil => rfl
  | cons s L ih =>
    have e : endsZ (s :: L) = [s.1, s.2 + 1] ++ endsZ L := by simp [endsZ]
    rw [e, List.length_append, ih, List.length_cons]
    simp
    omega
def allZ (S : List (List Spn)) : List Int := S.flatMap endsZ
/-- How many spans. -/
def totL (S : List (List Spn)) : Nat := (S.map List.length).sum
theorem allZ_append (S T : List (List Spn)) : allZ (S ++ T) = allZ S ++ allZ T := by simp [allZ]
theorem allZ_length (S : List (List Spn)) : (allZ S).length = totL S * 2 := by
  induction S with
  | nil => rfl
  | cons L S ih =>
    have e : allZ (L :: S) = endsZ L ++ allZ S := by simp [allZ]
    have e2 : totL (L :: S) = L.length + totL S := by simp [totL]
    rw [e, e2, List.length_append, ih, endsZ_length]
    omega
theorem totL_take (S : List (List Spn)) (i : Nat) (hi : i < S.length) : totL (S.take i) + (S.getD i []).length ≤ totL S := by
  have e : S = S.take i ++ (S.getD i [] :: S.drop (i + 1)) := by
    have := List.take_append_drop i S
    rw [List.drop_eq_getElem_cons hi] at this
    rw [List.getD_eq_getElem?_getD, List.getElem?_eq_getElem hi]
    exact this.symm
  have : totL S = totL (S.take i) + ((S.getD i []).length + totL (S.drop (i + 1))) := by
    conv => lhs; rw [e]
    simp [totL]
  omega
theorem take_L (S : List (List Spn)) (k : Nat) (hk : k < S.length) : S.take (k + 1) = S.take k ++ [S.getD k []] := by
  rw [List.take_succ_eq_append_getElem hk]
  simp [List.getD_eq_getElem?_getD, hk]
/-- What has been gathered. -/
def gotZ (S : List (List Spn)) (i k : Nat) : List Int := [0, 4294967296] ++ allZ (S.take i) ++ endsZ ((S.getD i []).take k)
theorem gotZ_length (S : List (List Spn)) (i k : Nat) (hi : i < S.length) (hk : k ≤ (S.getD i []).length) : (gotZ S i k).length ≤ 2 + totL S * 2 := by
  unfold gotZ
  rw [List.length_append, List.length_append, allZ_length, endsZ_length, List.length_take]
  have := totL_take S i hi
  simp only [List.length_cons, List.length_nil]
  omega
theorem gotZ_step (S : List (List Spn)) (i k : Nat) (hk : k < (S.getD i []).length) : gotZ S i (k + 1) = gotZ S i k ++ [((S.getD i []).getD k (0, 0)).1, ((S.getD i []).getD k (0, 0)).2 + 1] := by
  unfold gotZ
  rw [take_getD _ k hk, endsZ_append, ← List.append_assoc]
  simp [endsZ]
theorem gotZ_next (S : List (List Spn)) (i : Nat) (hi : i < S.length) : gotZ S i (S.getD i []).length = gotZ S (i + 1) 0 := by
  unfold gotZ
  rw [List.take_length, take_L S i hi, allZ_append]
  simp [allZ, endsZ]

theorem two_cells (T : TypeId) (w0 : World) (x y : Value) : ∀ j u, ([x, y] : List Value)[j]? = some u → (w0.alloc (.cells #[x, y] T)).cell? ((⟨w0.heap.size, 0, none⟩ : Addr).add j) = some u := by
  intro j u hu
  match j, hu with
  | 0, hu => simp at hu; subst hu; simp [Addr.add]
  | 1, hu => simp at hu; subst hu; simp [Addr.add]
/-- Rising numbers, each once. -/
structure DdZ (M : List Int) (i : Nat) (O : List Int) : Prop where
  up : O.Pairwise (· < ·)
  mem : ∀ x, x ∈ O ↔ x ∈ M.take i
  len : O.length ≤ i
theorem DdZ.start (M : List Int) : DdZ M 0 [] := ⟨List.Pairwise.nil, by simp, Nat.le_refl _⟩
theorem take_Z (M : List Int) (k : Nat) (hk : k < M.length) : M.take (k + 1) = M.take k ++ [M.getD k 0] := by
  rw [List.take_succ_eq_append_getElem hk]
  simp [List.getD_eq_getElem?_getD, hk]
theorem DdZ.new {M : List Int} {i : Nat} {O : List Int} (h : DdZ M i O) (hM : SortedZ M) (hi : i < M.length) (hn : i = 0 ∨ M.getD i 0 ≠ M.getD (i - 1) 0) : DdZ M (i + 1) (O ++ [M.getD i 0]) := by
  refine ⟨?_, fun x => ?_, by rw [List.length_append]; have := h.len; simp; omega⟩
  · rw [List.pairwise_append]
    refine ⟨h.up, List.pairwise_singleton .., fun a ha b hb => ?_⟩
    rw [List.mem_singleton.1 hb]
    have ha2 := (h.mem a).1 ha
    obtain ⟨j, hj, rfl⟩ := List.getElem_of_mem ha2
    rw [List.length_take] at hj
    rw [List.getElem_take]
    have hpw := List.pairwise_iff_getElem.1 hM
    rcases hn with h0 | hn
    · omega
    · simp only [List.getD_eq_getElem?_getD, List.getElem?_eq_getElem hi, List.getElem?_eq_getElem (show i - 1 < M.length by omega), Option.getD_some] at hn ⊢
      have h2 : M[j] ≤ M[i - 1] := by
        by_cases hji : j = i - 1
        · simp [hji]
        · exact hpw j (i - 1) (by omega) (by omega) (by omega)
      have h3 : M[i - 1] ≤ M[i] := hpw (i - 1) i (by omega) hi (by omega)
      omega
  · rw [take_Z M i hi, List.mem_append, List.mem_append, h.mem]
theorem DdZ.old {M : List Int} {i : Nat} {O : List Int} (h : DdZ M i O) (hi : i < M.length) (h0 : 0 < i) (he : M.getD i 0 = M.getD (i - 1) 0) : DdZ M (i + 1) O := by
  refine ⟨h.up, fun x => ?_, by have := h.len; omega⟩
  rw [take_Z M i hi, List.mem_append, h.mem]
  refine ⟨fun h => .inl h, fun hx => ?_⟩
  rcases hx with hx | hx
  · exact hx
  · rw [List.mem_singleton.1 hx, he]
    rw [List.getD_eq_getElem?_getD, List.getElem?_eq_getElem (show i - 1 < M.length by omega), Option.getD_some]
    refine List.mem_iff_getElem.2 ⟨i - 1, by rw [List.length_take]; omega, by rw [List.getElem_take]⟩
/-- What places tells. -/
def PlIs (S : List (List Spn)) (w : World) (e : Ending) (w' : World) : Prop := (∃ v P, e = .returned v ∧ OwnZ w' w.heap.size v P ∧ P.Pairwise (· < ·) ∧ (∀ x, x ∈ P ↔ x ∈ [0, 4294967296] ++ allZ S) ∧ P.length ≤ 2 + totL S * 2) ∧ Below w.heap.size w w'

set_option maxRecDepth 100000 in
set_option maxHeartbeats 2000000 in
theorem refPlaces_any (ao : Option Addr) (cap : Nat) (S : List (List Spn)) (w : World) (hlen : S.length ≤ 2147483647) (htot : totL S ≤ 4294967294) (hS : ∀ L ∈ S, IsSet L) (hat : SqAt w ao S) :
    Calls Try.prog 56 #[.slice ao S.length cap] w fun e w' => PlIs S w e w' := by
  obtain ⟨i0, hi, hz0, hz1, hz2⟩ : ∃ i, Try.prog.info? 3 = some i ∧ i.zero = some (.int .i64 0) ∧ i.size = 1 ∧ i.bytes = 8 := info_parts Try.info3
  have HAT := hide hat
  have HSS := hide hS
  clear hat hS
  go_enter Try.func56, Try.ntmps56
  go_wp2
  have O0 : Hid (OwnZ (w.alloc (.cells #[.int .i64 0, .int .i64 4294967296] 3)) w.heap.size (.slice (some ⟨w.heap.size, 0, none⟩) 2 2) (gotZ S 0 0)) := World.ownsRow_lit w #[.int .i64 0, .int .i64 4294967296] 2 (Nat.le_refl _) (by decide) rfl
  have B0 := hide ((Below.refl w.heap.size w).alloc (Nat.le_refl _) (.cells #[.int .i64 0, .int .i64 4294967296] 3))
  generalize w.alloc (.cells #[.int .i64 0, .int .i64 4294967296] 3) = W0 at *
  go_loopw [3, 4] (fun v x wr => ∃ i : Nat, i ≤ S.length ∧ x = .int .i64 i ∧ Hid (OwnZ wr w.heap.size v (gotZ S i 0)) ∧ Below w.heap.size w wr) (fun _ x _ => S.length - (RowKit.intOf x).toNat)
  case atStart => exact ⟨0, Nat.zero_le _, rfl, O0.out, B0.out⟩
  case round =>
    obtain ⟨i, hi1, rfl, O1, hq⟩ := hrel
    have HQ := hide hq
    clear hq
    by_cases hlt : i < S.length
    · have hlt' : (i : Int) < S.length := by omega
      obtain ⟨sb, so, rfl, hsb, hsc⟩ : ∃ b off, ao = some ⟨b, off, none⟩ ∧ b < w.heap.size ∧ ∀ i, i < S.length → ∃ ai ci, w.cell? ⟨b, off + i, none⟩ = some (.slice ai (S.getD i []).length ci) ∧ SpAt w ai (S.getD i []) := by
        rcases HAT.out with h | h
        · rw [h] at hlt; simp at hlt
        · exact h
      obtain ⟨ai, ci, k0, hsp⟩ := hsc i hlt
      have hset : IsSet (S.getD i []) := HSS.out _ (by simp [List.getD_eq_getElem?_getD, hlt])
      have hgl := fun k hk => gotZ_length S i k hlt hk
      have hgs := fun k hk => gotZ_step S i k hk
      have hgn := gotZ_next S i hlt
      have hll : (S.getD i []).length ≤ 4294967294 := by have := totL_take S i hlt; omega
      have HG1 := hide hgl
      have HG2 := hide hgs
      have HG3 := hide hgn
      have HSE := hide hset
      have HSP := hide hsp
      generalize hL : S.getD i [] = L at *
      have HK0 := hide k0
      clear hsc hset hsp hgl hgs hgn k0 hL
      rename World => wL
      have c0 := (HQ.out.cell (p := ⟨sb, so + i, none⟩) hsb).trans HK0.out
      go_wp2
      go_loopw [3, 5] (fun v x wr => ∃ k : Nat, k ≤ L.length ∧ x = .int .i64 k ∧ Hid (OwnZ wr w.heap.size v (gotZ S i k)) ∧ Below w.heap.size w wr) (fun _ x _ => L.length - (RowKit.intOf x).toNat)
      case atStart => exact ⟨0, Nat.zero_le _, rfl, O1.out, HQ.out⟩
      case round =>
        obtain ⟨k, hk1, rfl, O2, hq2⟩ := hrel
        have HQ2 := hide hq2
        clear hq2 c0
        have c0 := (HQ2.out.cell (p := ⟨sb, so + i, none⟩) hsb).trans HK0.out
        by_cases hk : k < L.length
        · have hk' : (k : Int) < L.length := by omega
          obtain ⟨b, off, rfl, hb, hc⟩ := HSP.out.get hk
          obtain ⟨c1, c2⟩ := (hc k hk).below HQ2.out hb
          have HCW : Hid (Cell2 w b (off + k * 2) (L.getD k (0, 0))) := hc k hk
          have hbd := (ok_of_isSet HSE.out hk).1
          unfold Bnd at hbd
          have HST := hide (HG2.out k hk)
          have HLN := hide (HG1.out k (by omega))
          generalize L.getD k (0, 0) = s at *
          have fs : IntKind.i64.wrap (s.2 + 1) = s.2 + 1 := by simp [IntKind.wrap, IntKind.bits, IntKind.signed]; omega
          have hsbr : sb < wr.heap.size := Nat.lt_of_lt_of_le hsb HQ2.out.size
          have hbr : b < wr.heap.size := Nat.lt_of_lt_of_le hb HQ2.out.size
          have n1 : ¬ wr.heap.size = sb := by omega
          have n2 : ¬ wr.heap.size = b := by omega
          have n3 : ¬ sb = wr.heap.size := by omega
          have n4 : ¬ b = wr.heap.size := by omega
          clear hc
          have hbA : Below wr.heap.size wr (wr.alloc (.cells #[.int .i64 s.1, .int .i64 (s.2 + 1)] 3)) := (Below.refl _ _).alloc (Nat.le_refl _) _
          have HOW : Hid ((wr.alloc (.cells #[.int .i64 s.1, .int .i64 (s.2 + 1)] 3)).drew.ownsRow w.heap.size 3 1 u3 (gotZ S i k).length (itCells (gotZ S i k))) := World.ownsRow.drew (O2.out.below hbA)
          have HBW : Hid (Below w.heap.size w (wr.alloc (.cells #[.int .i64 s.1, .int .i64 (s.2 + 1)] 3)).drew) := (HQ2.out.trans (hbA.mono HQ2.out.size)).drew
          have HNW : Hid (∀ j u, ([.int .i64 s.1, .int .i64 (s.2 + 1)] : List Value)[j]? = some u → (wr.alloc (.cells #[.int .i64 s.1, .int .i64 (s.2 + 1)] 3)).drew.cell? ((⟨wr.heap.size, 0, none⟩ : Addr).add j) = some u) := fun j u hu => two_cells 3 wr _ _ j u hu
          clear hbA
          go_wp2
          go_region_held3 (fun w' => w'.cell? ⟨sb, so + i, none⟩ = some (.slice (some ⟨b, off, none⟩) L.length ci) ∧ w'.cell? ⟨b, off + k * 2, none⟩ = some (.int .i64 s.1) ∧ w'.cell? ⟨b, off + k * 2 + 1, none⟩ = some (.int .i64 s.2)) (first | assumption | (simp [go_sem, *]; done))
            ((refine step_append_lies _ (by rfl) (.tmp 24) (.tmp 42) 48 (by rfl) w.heap.size 3 i0 (.int .i64 0) 1 8 Try.underlying48 hi hz0 hz1 hz2 rfl (by decide) u3 (gotZ S i k).length (itCells (gotZ S i k)) (by rfl) HOW.out ⟨wr.heap.size, 0, none⟩ 2 2 [.int .i64 s.1, .int .i64 (s.2 + 1)] (by rfl) (by rfl) HNW.out (by simp [Value.oneCell']) (by decide) (by have := HLN.out; unfold maxLen; omega) (by have := HLN.out; omega) HBW.out.size _ rfl ?_; intro g cap6 w6 h1 h2 h3 h4; have b6 : Below w.heap.size w w6 := (HBW.out.grown h2 HBW.out.size (fun k hk => (World.ownsRow.lt HOW.out k hk).1)); have d0 : w6.cell? ⟨sb, so + i, none⟩ = some (.slice (some ⟨b, off, none⟩) L.length ci) := ((b6.cell (p := ⟨sb, _, none⟩) hsb).trans HK0.out); have d1 : w6.cell? ⟨b, off + k * 2, none⟩ = some (.int .i64 s.1) := ((b6.cell (p := ⟨b, _, none⟩) hb).trans HCW.out.1); have d2 : w6.cell? ⟨b, off + k * 2 + 1, none⟩ = some (.int .i64 s.2) := ((b6.cell (p := ⟨b, _, none⟩) hb).trans HCW.out.2); have B6 := hide b6; have O6 := hide h1; clear h1 h2 h3 h4 b6))
          have O7 : Hid (OwnZ w6 w.heap.size (.slice (some ⟨g, 0, none⟩) ((gotZ S i k).length + 2) cap6) (gotZ S i (k + 1))) := by
            unfold Hid OwnZ
            rw [HST.out, itCells_append, List.length_append]
            exact O6.out
          clear d0 d1 d2 O6 c1 c2
          go_wp2
          go_roundw
          case rel => exact ⟨k + 1, by omega, by go_num, O7.out, B6.out⟩
          case measure => simp [RowKit.intOf]; omega
        · have hk' : ¬ (k : Int) < L.length := by omega
          have hke : k = L.length := by omega
          rw [hke, HG3.out] at O2
          clear hke
          go_wp2
          go_roundw
          case rel => exact ⟨i + 1, by omega, by go_num, O2.out, HQ2.out⟩
          case measure => simp [RowKit.intOf]; omega
    · have hlt' : ¬ (i : Int) < S.length := by omega
      have hie : i = S.length := by omega
      have e0 : gotZ S i 0 = [0, 4294967296] ++ allZ S := by
        unfold gotZ
        rw [hie, List.take_length]
        simp [endsZ]
      rw [e0] at O1
      clear hie e0
      obtain ⟨az, cz, ez, tz, lz, nz⟩ := O1.out.shape
      have hlz : ([0, 4294967296] ++ allZ S).length = 2 + totL S * 2 := by rw [List.length_append, allZ_length]; rfl
      subst ez
      obtain ⟨a1, rfl⟩ : ∃ a1, az = some a1 := by
        cases az with
        | none => have := nz rfl; rw [hlz] at lz; omega
        | some a => exact ⟨a, rfl⟩
      have hri := rising_any _ ([0, 4294967296] ++ allZ S) (Nat.le_refl _) a1 cz wr tz lz (by rw [hlz]; omega)
      have HLZ := hide hlz
      clear tz nz hlz
      generalize hZ : [0, 4294967296] ++ allZ S = Z at *
      have HZ := hide hZ
      clear hZ
      rename World => wG
      go_wp2_with (go_at_call 66; refine hri.mono ?_; rintro e w2 ⟨a2, c2, M, rfl, pM, sM, tM, lM, x2⟩; have PM := hide pM; have SM := hide sM; have TM := hide tM; have X2 := hide (bt HQ.out x2 (Nat.le_refl _)); clear pM sM tM x2 hri)
      have hML : M.length = 2 + totL S * 2 := by rw [PM.out.length_eq]; exact HLZ.out
      obtain ⟨mb, mo, em, hmb, hmc⟩ := TM.out.get (i := 0) (by omega)
      cases em
      have HMC := hide hmc
      have HML := hide hML
      have hmle : M.length ≤ 8589934592 := by omega
      clear hmc O1 hML
      go_loopw [6, 7] (fun o x wr => ∃ (i : Nat) (O : List Int), i ≤ M.length ∧ x = .int .i64 i ∧ Hid (DdZ M i O) ∧ Hid (OwnZ wr w2.heap.size o O) ∧ Below w2.heap.size w2 wr) (fun _ x _ => M.length - (RowKit.intOf x).toNat)
      case atStart => exact ⟨0, [], Nat.zero_le _, rfl, DdZ.start M, OwnZ.nil _ _, Below.refl _ _⟩
      case round =>
        obtain ⟨j, O, hj1, rfl, DD, O2, hq3⟩ := hrel
        have HQ3 := hide hq3
        clear hq3
        by_cases hjl : j < M.length
        · have hjl' : (j : Int) < M.length := by omega
          have c1 := (HQ3.out.cell (p := ⟨mb, mo + j, none⟩) hmb).trans (HMC.out j hjl)
          have HDr : Hid (Below wr.heap.size wr wr.drew) := (Below.refl _ _).drew
          have hmbr : mb < wr.heap.size := Nat.lt_of_lt_of_le hmb HQ3.out.size
          have hOl := DD.out.len
          by_cases hnew : j = 0 ∨ M.getD j 0 ≠ M.getD (j - 1) 0
          · have HDD := hide (DD.out.new SM.out hjl hnew)
            generalize hzz : M.getD j 0 = z at *
            have HZZ := hide hzz
            clear hzz
            by_cases h0 : j = 0
            · have hz0' : ((j : Int) == 0) = true := by rw [h0]; rfl
              have hN0 : j = 0 := h0
              have H0 := hide h0
              clear h0 hN0 hnew
              go_wp2
              refine wp_region_quiet (C := fun w' => Below wr.heap.size wr w') (by kernel_rfl) (by kernel_rfl) HDr.out ?_
              refine QW.out (l := _ :: _) ?_
              iterate 3 (refine QW.take (by rfl) ?_; apply Exists.intro; refine ⟨fun w' hw' => ?_, ?_⟩; (· (have g1 := (hw'.cell (p := ⟨mb, mo + j, none⟩) hmbr).trans c1; go_simp; first | done | ((try simp only [hz0']); first | done | rfl))); try simp only [Act.put, List.setIfInBounds_toArray, List.set_cons_zero, List.set_cons_succ])
              iterate 10 (refine QW.skip (by rfl) ?_; try simp only [Act.put, List.setIfInBounds_toArray, List.set_cons_zero, List.set_cons_succ])
              iterate 1 (refine QW.take (by rfl) ?_; apply Exists.intro; refine ⟨fun w' hw' => ?_, ?_⟩; (· (have g1 := (hw'.cell (p := ⟨mb, mo + j, none⟩) hmbr).trans c1; go_simp; first | done | ((try simp only [hz0']); first | done | rfl))); try simp only [Act.put, List.setIfInBounds_toArray, List.set_cons_zero, List.set_cons_succ])
              refine QW.nil ?_
              intro w7 x7
              have c7 := (x7.cell (p := ⟨mb, mo + j, none⟩) hmbr).trans c1
              have hx7 := bt HQ3.out x7 (Nat.le_refl _)
              have O7 := hide ((O2.out.below x7).below ((Below.refl w7.heap.size w7).alloc (Nat.le_refl _) (.cells #[.int .i64 z] 3)))
              have X7 := hide (hx7.alloc hx7.size (.cells #[.int .i64 z] 3))
              have HN7 := hide (one_cell 3 w7 (.int .i64 z))
              clear x7 c1 hx7
              go_wp2_with (at_builtin; refine wpList_append_own_at _ rfl (.tmp 66) (.tmp 71) 48 rfl w2.heap.size 3 i0 (.int .i64 0) 1 8 Try.underlying48 hi hz0 hz1 hz2 rfl (by decide) _ O.length (itCells O) rfl O7.out ⟨w7.heap.size, 0, none⟩ 1 1 [.int .i64 z] rfl rfl HN7.out (by simp [Value.oneCell']) (by unfold maxLen; omega) (by omega) X7.out.size ?_; intro v8 w8 h1 h2 _ h3; have X8 := hide (X7.out.grown h2 X7.out.size (fun k hk => (O7.out.lt k hk).1)); have H1 := hide h1; clear h1 h2 h3)
              have O8 : Hid (OwnZ w8 w2.heap.size v8 (O ++ [z])) := by
                unfold Hid OwnZ
                rw [itCells_append, List.length_append]
                exact H1.out
              go_roundw
              case rel => exact ⟨j + 1, O ++ [z], by omega, by go_num, HDD.out, O8.out, X8.out⟩
              case measure => simp [RowKit.intOf]; omega
            · have p1 := (HQ3.out.cell (p := ⟨mb, mo + (j - 1), none⟩) hmb).trans (HMC.out (j - 1) (by omega))
              have hne : ¬ z = M.getD (j - 1) 0 := by
                rcases hnew with h | h
                · exact absurd h h0
                · exact h
              generalize M.getD (j - 1) 0 = y at *
              have hnb : (z == y) = false := beq_eq_false_iff_ne.2 hne
              have hkz : ((j : Int) - 1) = ((j - 1 : Nat) : Int) := by omega
              have fit : IntKind.i64.wrap ((j - 1 : Nat) : Int) = ((j - 1 : Nat) : Int) := by simp [IntKind.wrap, IntKind.bits, IntKind.signed]; omega
              have hi2 : ((j - 1 : Nat) : Int) < (M.length : Int) := by omega
              have hzb : ((j : Int) == 0) = false := by rw [beq_eq_false_iff_ne]; omega
              clear hnew
              go_wp2
              refine wp_region_quiet (C := fun w' => Below wr.heap.size wr w') (by kernel_rfl) (by kernel_rfl) HDr.out ?_
              refine QW.out (l := _ :: _) ?_
              iterate 14 (refine QW.take (by rfl) ?_; apply Exists.intro; refine ⟨fun w' hw' => ?_, ?_⟩; (· (have g1 := (hw'.cell (p := ⟨mb, mo + j, none⟩) hmbr).trans c1; have g2 := (hw'.cell (p := ⟨mb, mo + (j - 1), none⟩) hmbr).trans p1; go_simp; first | done | ((try simp only [fit, hzb, hnb]); first | done | rfl))); try simp only [Act.put, List.setIfInBounds_toArray, List.set_cons_zero, List.set_cons_succ])
              refine QW.nil ?_
              intro w7 x7
              have c7 := (x7.cell (p := ⟨mb, mo + j, none⟩) hmbr).trans c1
              have hx7 := bt HQ3.out x7 (Nat.le_refl _)
              have O7 := hide ((O2.out.below x7).below ((Below.refl w7.heap.size w7).alloc (Nat.le_refl _) (.cells #[.int .i64 z] 3)))
              have X7 := hide (hx7.alloc hx7.size (.cells #[.int .i64 z] 3))
              have HN7 := hide (one_cell 3 w7 (.int .i64 z))
              clear x7 c1 hx7
              go_wp2_with (at_builtin; refine wpList_append_own_at _ rfl (.tmp 66) (.tmp 71) 48 rfl w2.heap.size 3 i0 (.int .i64 0) 1 8 Try.underlying48 hi hz0 hz1 hz2 rfl (by decide) _ O.length (itCells O) rfl O7.out ⟨w7.heap.size, 0, none⟩ 1 1 [.int .i64 z] rfl rfl HN7.out (by simp [Value.oneCell']) (by unfold maxLen; omega) (by omega) X7.out.size ?_; intro v8 w8 h1 h2 _ h3; have X8 := hide (X7.out.grown h2 X7.out.size (fun k hk => (O7.out.lt k hk).1)); have H1 := hide h1; clear h1 h2 h3)
              have O8 : Hid (OwnZ w8 w2.heap.size v8 (O ++ [z])) := by
                unfold Hid OwnZ
                rw [itCells_append, List.length_append]
                exact H1.out
              go_roundw
              case rel => exact ⟨j + 1, O ++ [z], by omega, by go_num, HDD.out, O8.out, X8.out⟩
              case measure => simp [RowKit.intOf]; omega
          · have h0 : 0 < j := by omega
            have heq : M.getD j 0 = M.getD (j - 1) 0 := by
              by_cases h : M.getD j 0 = M.getD (j - 1) 0
              · exact h
              · exact absurd (.inr h) hnew
            have HDD := hide (DD.out.old hjl h0 heq)
            have p1 := (HQ3.out.cell (p := ⟨mb, mo + (j - 1), none⟩) hmb).trans (HMC.out (j - 1) (by omega))
            rw [← heq] at p1
            generalize M.getD j 0 = z at *
            have hkz : ((j : Int) - 1) = ((j - 1 : Nat) : Int) := by omega
            have fit : IntKind.i64.wrap ((j - 1 : Nat) : Int) = ((j - 1 : Nat) : Int) := by simp [IntKind.wrap, IntKind.bits, IntKind.signed]; omega
            have hi2 : ((j - 1 : Nat) : Int) < (M.length : Int) := by omega
            have hz1 : ((j : Int) == 0) = false := by rw [beq_eq_false_iff_ne]; omega
            have hz2 : ¬ j = 0 := by omega
            clear hnew heq
            go_wp2
            refine wp_region_quiet (C := fun w' => Below wr.heap.size wr w') (by kernel_rfl) (by kernel_rfl) HDr.out ?_
            refine QW.out (l := _ :: _) ?_
            iterate 14 (refine QW.take (by rfl) ?_; apply Exists.intro; refine ⟨fun w' hw' => ?_, ?_⟩; (· (have g1 := (hw'.cell (p := ⟨mb, mo + j, none⟩) hmbr).trans c1; have g2 := (hw'.cell (p := ⟨mb, mo + (j - 1), none⟩) hmbr).trans p1; go_simp; first | done | ((try simp only [fit, hz1]); first | done | rfl))); try simp only [Act.put, List.setIfInBounds_toArray, List.set_cons_zero, List.set_cons_succ])
            refine QW.nil ?_
            intro w7 x7
            have O7 := hide (O2.out.below x7)
            have X7 := hide (bt HQ3.out x7 (Nat.le_refl _))
            clear x7 c1 p1
            go_wp2
            go_roundw
            case rel => exact ⟨j + 1, O, by omega, by go_num, HDD.out, O7.out, X7.out⟩
            case measure => simp [RowKit.intOf]; omega
        · have hjl' : ¬ (j : Int) < M.length := by omega
          have hje : j = M.length := by omega
          have hmem : ∀ x, x ∈ O ↔ x ∈ Z := fun x => by
            rw [DD.out.mem x, hje, List.take_length]
            exact PM.out.mem_iff
          have hlo := DD.out.len
          have HME := hide hmem
          clear hmem hje
          go_wp2
          go_ret
          exact ⟨⟨u6, O, rfl, own_mono O2.out X2.out.size, DD.out.up, fun x => by rw [HZ.out]; exact HME.out x, by have := HML.out; omega⟩, bt X2.out HQ3.out (Nat.le_refl _)⟩
end Go.Proofs.Ytljagefcgijmlaa
