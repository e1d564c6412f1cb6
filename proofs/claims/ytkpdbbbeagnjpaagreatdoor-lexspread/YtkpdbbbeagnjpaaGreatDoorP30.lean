/-
  endPrefix, endRun of a run of digits by their contracts. Conditions: as endNumber's.
-/
import Derived.Test.YtkpdbbbeagnjpaaGreatDoorP19
import Derived.Test.YtkpdbbbeagnjpaaGreatDoorP29
namespace Go.Proofs.YtkpdbbbeagnjpaaGreatDoor
open Go.RowKit Go.Lib

/-- A run of digits with points, as a prefix. -/
def endPfxP (x : SS) (run : By) : Int × SS := match pfxL run with | some (a, k) => (0, { x with tk := x.tk ++ [⟨5, [], 0, a, k, x.fr⟩] }) | none => (81, x)
/-- A run of digits. -/
def endDigP (x : SS) (run : By) : Int × SS := if 46 ∈ run ∨ 47 ∈ run then endPfxP x run else endNumP x run
section
variable {w : World} {base p : Nat} {s : By} {x : SS}
set_option maxHeartbeats 4000000 in
set_option maxRecDepth 100000 in
theorem endPrefix_any (h : ScA w base p s x) (run : By) (hrl : run.length ≤ 4294967296) (hb : base ≤ w.heap.size) (hl : x.tk.length ≤ 4294967296) :
    Calls Tryz.prog 53 #[.pointer (some ⟨p, 0, none⟩), .string ⟨run.toArray⟩] w fun e w' => ScE w base p s (endPfxP x run) e w' := by
  obtain ⟨tv, ad, bv, h⟩ := h
  have HH := hide h
  have HP := hide (parsePrefix_any run (by omega) w)
  clear h
  cases hpf : pfxL run with
  | none =>
    have HM : Hid (endPfxP x run = (81, x)) := by unfold Hid endPfxP; rw [hpf]
    unfold pfxA pfxB pfxE at HP
    rw [hpf] at HP
    simp only [Option.isSome_none, Bool.false_eq_true, if_false] at HP
    clear hpf
    generalize ((Option.getD none (0, 0) : Nat × Nat).1 : Int) = A at HP
    generalize ((Option.getD none (0, 0) : Nat × Nat).2 : Int) = B at HP
    go_enter Tryz.func53, Tryz.ntmps53
    go_wp2_with (go_at_call 64; refine HP.out.mono ?_; rintro e w1 ⟨rfl, x1⟩; have X1 := hide x1; clear x1)
    go_ret
    rw [HM.out]
    have X2 := al X1.out (.cells #[.int .i64 A, .int .i64 B] 38)
    exact ⟨rfl, ⟨_, _, _, HH.out.below X2⟩, KpT.of_below X2, X2.size⟩
  | some ab =>
    obtain ⟨a, b⟩ := ab
    have HM : Hid (endPfxP x run = (0, { x with tk := x.tk ++ [⟨5, [], 0, a, b, x.fr⟩] })) := by unfold Hid endPfxP; rw [hpf]
    unfold pfxA pfxB pfxE at HP
    rw [hpf] at HP
    simp only [Option.isSome_some, if_true, Option.getD_some] at HP
    clear hpf
    have HA := hide (fun (W : World) (y : Below w.heap.size w W) => (HH.out.below y).add ⟨5, [], 0, a, b, 0⟩ hl (Nat.le_trans hb y.size))
    unfold tkV at HA
    go_enter Tryz.func53, Tryz.ntmps53
    go_wp2_with (first | (go_at_call 64; refine HP.out.mono ?_; rintro e w1 ⟨rfl, x1⟩; have X1 := hide (al x1 (.cells #[.int .i64 a, .int .i64 b] 38)); have HA1 := hide (HA.out _ X1.out); clear x1) | (go_at_call 37; refine HA1.out.mono ?_; rintro e w2 ⟨rfl, hA, hK, hS⟩; have HA2 := hide hA; have HK2 := hide hK; have HS2 := hide hS; clear hA hK hS))
    go_ret
    rw [HM.out]
    exact ⟨rfl, HA2.out, (KpT.of_below X1.out).trans HK2.out, Nat.le_trans X1.out.size HS2.out⟩
theorem any_iff (run : By) : containsAny run [46, 47] = decide (46 ∈ run ∨ 47 ∈ run) := by
  unfold containsAny
  congr 1
  apply propext
  induction run with
  | nil => simp [indexAny]
  | cons b l ih =>
    have hg := indexAny_ge [46, 47] l
    unfold indexAny
    by_cases hb : b = 46 ∨ b = 47
    · rw [if_pos (by rcases hb with rfl | rfl <;> decide)]
      rcases hb with rfl | rfl <;> simp
    · have hb1 : ¬ b = 46 := fun e => hb (.inl e)
      have hb2 : ¬ b = 47 := fun e => hb (.inr e)
      rw [if_neg (by simp [hb1, hb2])]
      have e1 : (46 ∈ b :: l ∨ 47 ∈ b :: l) ↔ (46 ∈ l ∨ 47 ∈ l) := by
        simp only [List.mem_cons]
        constructor
        · rintro ((h | h) | (h | h))
          · exact absurd h.symm hb1
          · exact .inl h
          · exact absurd h.symm hb2
          · exact .inr h
        · rintro (h | h)
          · exact .inl (.inr h)
          · exact .inr (.inr h)
      rw [e1, ← ih]
      by_cases hi : indexAny l [46, 47] = -1
      · rw [hi]
        decide
      · rw [if_neg (by simpa using hi)]
        omega
set_option maxHeartbeats 4000000 in
set_option maxRecDepth 100000 in
theorem endDig_any (h : ScA w base p s x) (q : Int) (h4 : x.st = 4) (h0 : 0 ≤ x.fr) (h1 : x.fr < q) (hq : q ≤ s.length) (hs : s.length ≤ 8000) (hgo : ∀ c ∈ cutB s x.fr.toNat q.toNat, goB 4 (bI c) = true) (hev : ErrV base w) (hb : base ≤ w.heap.size) (hl : x.tk.length ≤ 4294967296) :
    Calls Tryz.prog 35 #[.pointer (some ⟨p, 0, none⟩), .int .i64 q] w fun e w' => ScE w base p s (endDigP x (cutB s x.fr.toNat q.toNat)) e w' := by
  obtain ⟨tv, ad, bv, h⟩ := h
  have hsz := bs_size s
  have HE := hide (ext_cut s x.fr.toNat q.toNat)
  obtain ⟨run, hrun⟩ : ∃ run, Hid (run = cutB s x.fr.toNat q.toNat) := ⟨_, rfl⟩
  rw [← hrun.out] at HE hgo ⊢
  have hlen : run.length = q.toNat - x.fr.toNat := by rw [hrun.out]; unfold cutB; simp; omega
  have hrl : run.length ≤ 8000 := by omega
  have hr : run ≠ [] := by intro e; rw [e] at hlen; simp at hlen; omega
  have HCL := hide (fun W => clone_any run W (by omega))
  have hgo' : ∀ c ∈ run, (48 ≤ c.toNat ∧ c.toNat ≤ 57) ∨ c = 46 ∨ c = 47 := fun c hc => by
    have := hgo c hc
    unfold goB dgB bI at this
    rw [if_neg (by decide), if_neg (by decide)] at this
    simp only [Bool.or_eq_true, Bool.and_eq_true, decide_eq_true_eq] at this
    rcases this with (h | h) | h
    · exact .inl (by omega)
    · exact .inr (.inl (UInt8.toNat_inj.1 (by show c.toNat = 46; omega)))
    · exact .inr (.inr (UInt8.toNat_inj.1 (by show c.toNat = 47; omega)))
  have has : ∀ (j : Nat) b, (⟨run.toArray⟩ : ByteArray).data.toList[j]? = some b → b.toNat < 128 := fun j b hj => by
    have hm : b ∈ run := List.mem_of_getElem? hj
    rcases hgo' b hm with h | rfl | rfl
    · omega
    · decide
    · decide
  have HAN : Hid (∀ W, Calls Tryz.prog 52 #[.string ⟨run.toArray⟩, .string ⟨#[46, 47]⟩] W fun e w' => e = .returned (.bool (decide (46 ∈ run ∨ 47 ∈ run))) ∧ Below W.heap.size W w') := fun W => by
    refine (Tryz.strings_ContainsAny_laid ⟨run.toArray⟩ ⟨#[46, 47]⟩ W (by rw [bs_size]; omega) (by decide) has (fun j b hj => ?_)).mono ?_
    · have hm : b ∈ [46, 47] := List.mem_of_getElem? hj
      simp at hm
      rcases hm with rfl | rfl <;> decide
    · rintro e w' ⟨rfl, x1⟩
      exact ⟨by rw [← any_iff], x1⟩
  have HC : Hid (∀ V, Below w.heap.size w V → ScA V base p s x ∧ V.cell? ⟨p, 0, none⟩ = some (.string ⟨s.toArray⟩) ∧ V.cell? ⟨p, 2, none⟩ = some (.int .i64 x.st) ∧ V.cell? ⟨p, 3, none⟩ = some (.int .i64 x.fr)) := fun V y => by
    have := h.below y
    obtain ⟨c0, c2, c3, _⟩ := this.cells
    exact ⟨⟨_, _, _, this⟩, c0, c2, c3⟩
  obtain ⟨-, c0, c2, c3⟩ := HC.out w (Below.refl _ _)
  have HX : Hid (∀ V, Below w.heap.size w V → Calls Tryz.prog (if 46 ∈ run ∨ 47 ∈ run then 53 else 54) #[.pointer (some ⟨p, 0, none⟩), .string ⟨run.toArray⟩] V fun e w' => ScE V base p s (endDigP x run) e w') := fun V y => by
    unfold endDigP
    by_cases hc : 46 ∈ run ∨ 47 ∈ run
    · rw [if_pos hc, if_pos hc]
      exact endPrefix_any (HC.out V y).1 run (by omega) (Nat.le_trans hb y.size) hl
    · rw [if_neg hc, if_neg hc]
      refine endNumber_any (HC.out V y).1 run hr (fun c hcm => ?_) (by omega) (hev.below (y.mono hb)) (Nat.le_trans hb y.size) hl
      rcases hgo' c hcm with h | rfl | rfl
      · exact h
      · exact absurd (.inl hcm) hc
      · exact absurd (.inr hcm) hc
  clear h hgo hgo' has hr hlen hev
  rw [h4] at c2
  have h1' : x.fr ≤ q := by omega
  by_cases hc : 46 ∈ run ∨ 47 ∈ run
  all_goals
    first | rw [if_pos hc] at HX | rw [if_neg hc] at HX
    have hdc : ∀ b, decide (46 ∈ run ∨ 47 ∈ run) = b → Hid (∀ W, Calls Tryz.prog 52 #[.string ⟨run.toArray⟩, .string ⟨#[46, 47]⟩] W fun e w' => e = .returned (.bool b) ∧ Below W.heap.size W w') := fun b e => by rw [e] at HAN; exact HAN
    first | (have HAN2 := hdc true (decide_eq_true hc)) | (have HAN2 := hdc false (decide_eq_false hc))
    clear hdc HAN hc
    go_enter Tryz.func35, Tryz.ntmps35
    go_upto_region 1 with fail
    go_region_with (go_at_call 49; rw [HE.out]; refine (HCL.out _).mono ?_; rintro e w1 ⟨rfl, x1⟩; have X1 := hide (bt (Below.drew (Below.refl w.heap.size w)) x1 (Nat.le_refl _)); clear x1)
    all_goals
      obtain ⟨-, d0, d2, d3⟩ := HC.out w1 X1.out
      rw [h4] at d2
      clear c0 c2 c3
      go_wp2_with (first | (go_at_call 52; refine (HAN2.out _).mono ?_; rintro e w2 ⟨rfl, x2⟩; have X2 := hide (bt X1.out x2 (Nat.le_refl _)); have HX2 := hide (HX.out w2 X2.out); clear x2) | (go_at_call 53; refine HX2.out.mono ?_; rintro e w3 ⟨rfl, hA, hK, hS⟩; have HA3 := hide hA; have HK3 := hide hK; have HS3 := hide hS; clear hA hK hS) | (go_at_call 54; refine HX2.out.mono ?_; rintro e w3 ⟨rfl, hA, hK, hS⟩; have HA3 := hide hA; have HK3 := hide hK; have HS3 := hide hS; clear hA hK hS))
      go_ret
      exact ⟨rfl, HA3.out, (KpT.of_below X2.out).trans HK3.out, Nat.le_trans X2.out.size HS3.out⟩
end
end Go.Proofs.YtkpdbbbeagnjpaaGreatDoor
