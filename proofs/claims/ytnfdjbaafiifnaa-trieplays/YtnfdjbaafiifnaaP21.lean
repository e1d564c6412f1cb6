/-
  The statements' pick and rows by their contracts. Condition: numbers are of the machine's kind; lists no longer than a process can hold.
-/
import Derived.Test.YtnfdjbaafiifnaaP20
namespace Go.Proofs.Ytnfdjbaafiifnaa
open Go.RowKit Go.Lib

/-- A number of the machine's kind. -/
def Fit (x : Int) : Prop := -9223372036854775808 ≤ x ∧ x ≤ 9223372036854775807
/-- Which of n things c speaks of. -/
def pkZ (c : Int) (n : Nat) : Nat := (if c < 0 then -(c + 1) else c).toNat % n
theorem pkZ_lt (c : Int) {n : Nat} (h : 0 < n) : pkZ c n < n := Nat.mod_lt _ h
set_option maxRecDepth 100000 in
theorem pick_any (c : Int) (n : Nat) (hc : Fit c) (hn : 0 < n) (hn2 : n ≤ 8589934592) (w : World) : Calls Try.prog 11 #[.int .i64 c, .int .i64 n] w fun e w' => e = .returned (.int .i64 (pkZ c n : Nat)) ∧ w' = w := by
  unfold Fit at hc
  have hn0 : ¬ (n : Int) = 0 := by omega
  by_cases h : c < 0
  · have e : ((pkZ c n : Nat) : Int) = (-(c + 1)).tmod n := by
      unfold pkZ
      rw [if_pos h, Int.natCast_emod, Int.toNat_of_nonneg (by omega), Int.tmod_eq_emod_of_nonneg (by omega)]
    rw [e]
    clear e
    have w1 : IntKind.i64.wrap (c + 1) = c + 1 := by simp [IntKind.wrap, IntKind.bits, IntKind.signed]; omega
    have w2 : IntKind.i64.wrap (-(c + 1)) = -(c + 1) := by simp [IntKind.wrap, IntKind.bits, IntKind.signed]; omega
    go_enter Try.func11, Try.ntmps11
    rw [Int.neg_tmod]
    go_wp2
    go_ret
    exact ⟨rfl, rfl⟩
  · have e : ((pkZ c n : Nat) : Int) = c % n := by
      unfold pkZ
      rw [if_neg h, Int.natCast_emod, Int.toNat_of_nonneg (by omega)]
    rw [e]
    clear e
    go_enter Try.func11, Try.ntmps11
    go_wp2
    go_ret
    exact ⟨rfl, rfl⟩
set_option maxRecDepth 100000 in
set_option maxHeartbeats 1000000 in
theorem rowsSame_any (a1 a2 : Option Addr) (c1 c2 : Nat) (L : List RZ) (w : World) (hl : L.length ≤ 140737488351232) (h1 : RwAt w a1 L) (h2 : RwAt w a2 L) :
    Calls Try.prog 15 #[.slice a1 L.length c1, .slice a2 L.length c2] w fun e w' => e = .returned (.bool true) ∧ Below w.heap.size w w' := by
  go_enter Try.func15, Try.ntmps15
  go_wp2
  go_loopw [5] (fun x wr => ∃ k : Nat, k ≤ L.length ∧ x = .int .i64 k ∧ Hid (Below w.heap.size w wr)) (fun x _ => L.length - (RowKit.intOf x).toNat)
  case atStart => exact ⟨0, Nat.zero_le _, rfl, Below.refl _ _⟩
  case round =>
    obtain ⟨k, hk, rfl, HQ⟩ := hrel
    rename World => wr
    by_cases hlt : k < L.length
    · have hlt' : (k : Int) < (L.length : Int) := by omega
      rcases h1 with h | ⟨b, off, rfl, hb, hc⟩
      · rw [h] at hlt; simp at hlt
      rcases h2 with h | ⟨b', off', rfl, hb', hc'⟩
      · rw [h] at hlt; simp at hlt
      obtain ⟨p1, p2, p3⟩ := hc k hlt
      obtain ⟨q1, q2, q3⟩ := hc' k hlt
      have r1 := (HQ.out.cell (p := ⟨b, off + k * 3, none⟩) hb).trans p1
      have r2 := (HQ.out.cell (p := ⟨b, off + k * 3 + 1, none⟩) hb).trans p2
      have r3 := (HQ.out.cell (p := ⟨b, off + k * 3 + 2, none⟩) hb).trans p3
      have s1 := (HQ.out.cell (p := ⟨b', off' + k * 3, none⟩) hb').trans q1
      have s2 := (HQ.out.cell (p := ⟨b', off' + k * 3 + 1, none⟩) hb').trans q2
      have s3 := (HQ.out.cell (p := ⟨b', off' + k * 3 + 2, none⟩) hb').trans q3
      generalize L.getD k ((0, 0), 0) = z at *
      clear hc hc' p1 p2 p3 q1 q2 q3
      go_wp2
      go_quiet (fail)
      go_wp2
      go_roundw
      case rel => exact ⟨k + 1, by omega, by go_num, HQ.out.trans (below_drewN _ _ _)⟩
      case measure => simp [RowKit.intOf]; omega
    · have hlt' : ¬ (k : Int) < (L.length : Int) := by omega
      go_wp2
      go_ret
      exact ⟨rfl, HQ.out⟩
end Go.Proofs.Ytnfdjbaafiifnaa
/-
  The statements' fit by its contract. Condition: numbers are of the machine's kind; a list no longer than a process can hold.
-/
namespace Go.Proofs.Ytnfdjbaafiifnaa
open Go.RowKit Go.Lib

/-- What may be put. -/
def ftZ (r : RZ) : Rw := ((pkZ r.1.1 4294967296 / 2 ^ (32 - pkZ r.1.2 33) * 2 ^ (32 - pkZ r.1.2 33), pkZ r.1.2 33), ((pkZ r.2 65536 : Nat) : Int))
def FitR (r : RZ) : Prop := Fit r.1.1 ∧ Fit r.1.2 ∧ Fit r.2
def OwnU (w : World) (base : Nat) (v : Value) (R : List Rw) : Prop := w.ownsRow base 56 3 v R.length (rwCells R)
theorem Try.info56 : (Try.prog.info? 56).map (fun i => (i.zero, i.size, i.bytes)) = some (some (.agg #[.int .i64 0, .int .i64 0, .int .i64 0]), 3, 24) := by kernel_rfl
set_option maxRecDepth 100000 in
set_option maxHeartbeats 4000000 in
theorem fit_any (ao : Option Addr) (cap : Nat) (L : List RZ) (w : World) (hl : L.length ≤ 33554431) (hf : ∀ r ∈ L, FitR r) (hat : RwAt w ao L) :
    Calls Try.prog 17 #[.slice ao L.length cap] w fun e w' => (∃ v, e = .returned v ∧ OwnU w' w.heap.size v (L.map ftZ)) ∧ Below w.heap.size w w' := by
  obtain ⟨i56, hj, hy0, hy1, hy2⟩ := info_parts Try.info56
  go_enter Try.func17, Try.ntmps17
  go_wp2
  go_loopw [3, 4] (fun o x wr => ∃ k : Nat, k ≤ L.length ∧ x = .int .i64 k ∧ Hid (OwnU wr w.heap.size o ((L.take k).map ftZ)) ∧ Hid (Below w.heap.size w wr)) (fun _ x _ => L.length - (RowKit.intOf x).toNat)
  case atStart => exact ⟨0, Nat.zero_le _, rfl, World.ownsRow_nil _ _ 56 3, Below.refl _ _⟩
  case round =>
    obtain ⟨k, hk, rfl, HO, HQ⟩ := hrel
    rename World => wr
    by_cases hlt : k < L.length
    · have hlt' : (k : Int) < (L.length : Int) := by omega
      rcases hat with h | ⟨b, off, rfl, hb, hc⟩
      · rw [h] at hlt; simp at hlt
      obtain ⟨p1, p2, p3⟩ := hc k hlt
      have r1 := (HQ.out.cell (p := ⟨b, off + k * 3, none⟩) hb).trans p1
      have r2 := (HQ.out.cell (p := ⟨b, off + k * 3 + 1, none⟩) hb).trans p2
      have r3 := (HQ.out.cell (p := ⟨b, off + k * 3 + 2, none⟩) hb).trans p3
      have hz : FitR (L.getD k ((0, 0), 0)) := by
        rw [List.getD_eq_getElem?_getD, List.getElem?_eq_getElem hlt]
        exact hf _ (List.getElem_mem hlt)
      have HTK : Hid ((L.take (k + 1)).map ftZ = (L.take k).map ftZ ++ [ftZ (L.getD k ((0, 0), 0))]) := by
        unfold Hid
        rw [List.take_succ_eq_append_getElem hlt, List.map_append]
        simp [List.getD_eq_getElem?_getD, hlt]
      generalize L.getD k ((0, 0), 0) = z at *
      have k1 := fun w => pick_any z.1.2 33 hz.2.1 (by decide) (by decide) w
      have k2 := fun w => pick_any z.1.1 4294967296 hz.1 (by decide) (by decide) w
      have k3 := fun w => pick_any z.2 65536 hz.2.2 (by decide) (by decide) w
      obtain ⟨s, hs⟩ : ∃ s, Hid (s = pkZ z.1.2 33) := ⟨_, rfl⟩
      obtain ⟨x, hx⟩ : ∃ x, Hid (x = pkZ z.1.1 4294967296) := ⟨_, rfl⟩
      obtain ⟨y, hy⟩ : ∃ y, Hid (y = pkZ z.2 65536) := ⟨_, rfl⟩
      have hs1 : s ≤ 32 := by rw [hs.out]; have := pkZ_lt z.1.2 (n := 33) (by decide); omega
      have hx1 : x < 4294967296 := by rw [hx.out]; exact pkZ_lt _ (by decide)
      simp only [← hs.out] at k1
      simp only [← hx.out] at k2
      simp only [← hy.out] at k3
      have K1 := hide k1
      have K2 := hide k2
      have K3 := hide k3
      clear hc p1 p2 p3 hz k1 k2 k3
      go_wp2_with (fail)
      refine (K1.out _).mono ?_
      rintro e w1 ⟨rfl, hw1⟩
      have hw1 := hw1.symm
      subst hw1
      go_wp2_with (fail)
      refine (K2.out _).mono ?_
      rintro e w1 ⟨rfl, hw1⟩
      have hw1 := hw1.symm
      subst hw1
      obtain ⟨u, hu⟩ : ∃ u, Hid (u = 32 - s) := ⟨_, rfl⟩
      have hu1 : u ≤ 32 := by have := hu.out; omega
      have hwr : IntKind.i64.wrap (32 - (s : Int)) = (u : Nat) := by have := hu.out; simp [IntKind.wrap, IntKind.bits, IntKind.signed]; omega
      obtain ⟨q, hq⟩ : ∃ q, Hid (q = x / 2 ^ u * 2 ^ u) := ⟨_, rfl⟩
      have hq1 : q < 4294967296 := by rw [hq.out]; exact Nat.lt_of_le_of_lt (Nat.div_mul_le_self x _) hx1
      have hwq : wrap64 ((x : Int) / 2 ^ u * 2 ^ u) = (q : Nat) := by
        have e : (x : Int) / 2 ^ u * 2 ^ u = (q : Nat) := by rw [hq.out]; simp
        rw [e]
        unfold wrap64; omega
      have HP : Hid (ftZ z = ((q, s), (y : Int))) := by
        unfold Hid ftZ
        rw [← hs.out, ← hx.out, ← hy.out, ← hu.out, ← hq.out]
      go_wp2_with (fail)
      refine (K3.out _).mono ?_
      rintro e w1 ⟨rfl, hw1⟩
      have hw1 := hw1.symm
      subst hw1
      have HX : Hid (Below wr.heap.size wr (wr.alloc (.cells #[.int .i64 q, .int .i64 s, .int .i64 y] 56))) := al (Below.refl _ _) _
      have HN : Hid (∀ j v, ([.int .i64 q, .int .i64 s, .int .i64 y] : List Value)[j]? = some v → (wr.alloc (.cells #[.int .i64 q, .int .i64 s, .int .i64 y] 56)).cell? ((⟨wr.heap.size, 0, none⟩ : Addr).add j) = some v) := by
        intro j v hv
        match j, hv with
        | 0, hv => simp at hv; subst hv; simp [Addr.add]
        | 1, hv => simp at hv; subst hv; simp [Addr.add]
        | 2, hv => simp at hv; subst hv; simp [Addr.add]
      have HLN : Hid (((L.take k).map ftZ).length ≤ 33554431) := by unfold Hid; simp; omega
      have HB : Hid (w.heap.size ≤ (wr.alloc (.cells #[.int .i64 q, .int .i64 s, .int .i64 y] 56)).heap.size) := Nat.le_trans HQ.out.size HX.out.size
      go_wp2_with (at_builtin; refine wpList_append_own _ rfl (.tmp 33) (.tmp 44) 52 rfl w.heap.size 56 i56 (.agg #[.int .i64 0, .int .i64 0, .int .i64 0]) 3 24 Try.underlying52 hj hy0 hy1 hy2 rfl (by decide) _ ((L.take k).map ftZ).length (rwCells ((L.take k).map ftZ)) rfl (own_below HO.out HX.out) ⟨wr.heap.size, 0, none⟩ 1 1 [.int .i64 q, .int .i64 s, .int .i64 y] rfl rfl HN.out (by simp [Value.oneCell']) (by have := HLN.out; unfold maxLen; omega) (by have := HLN.out; omega) HB.out ?_; intro v2 w2 h1 h2 _; have G1 := hide h1; have G2 := hide ((HQ.out.trans (HX.out.mono HQ.out.size)).trans ((kept_of_grown h2).below HB.out (fun k hk => (World.ownsRow.lt HO.out k hk).1))); clear h1 h2)
      go_roundw
      case rel => exact ⟨k + 1, by omega, by go_num, by unfold Hid OwnU; rw [HTK.out, HP.out, rwCells_snoc, List.length_append]; exact G1.out, G2⟩
      case measure => simp [RowKit.intOf]; omega
    · have h8 : k = L.length := by omega
      subst h8
      rw [List.take_length] at HO
      go_wp2
      go_ret
      exact ⟨⟨_, rfl, HO.out⟩, HQ.out⟩
end Go.Proofs.Ytnfdjbaafiifnaa
