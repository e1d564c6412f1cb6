/-
  A codec's Reader and the document's Reader side by side: reads answers true and keeps them alike; Left and Done say the same of both. Conditions: the numbers are ints; a string is no longer than 2^47; the cell of errors.errorType holds the handle of 'error'.
-/
import Derived.Test.YtonoobjpafhogaaDoorRefR2
import Derived.Test.YtonoobjpafhogaaDoorPair
namespace Go.Proofs.YtonoobjpafhogaaDoor
open Go.RowKit

/-- The two Readers say the same. -/
structure RP (w : World) (b c : Nat) (E : Int) (R R' : List UInt8) : Prop where
  one : RAt 77 w b R (errOf E)
  two : RAt 79 w c R' (.int .i64 E)
  ne : b ≠ c
  ok : E = 0 → R = R'
  no : E ≠ 0 → R = []
  len : R.length ≤ 140737488355328 ∧ R'.length ≤ 140737488355328

theorem RP.left {w : World} {b c : Nat} {E : Int} {R R' : List UInt8} (h : RP w b c E R R') : refLeft E R' = R.length := by
  unfold refLeft
  by_cases hE : E = 0
  · rw [if_pos hE, h.ok hE]
  · rw [if_neg hE, h.no hE]; rfl
theorem RP.done {w : World} {b c : Nat} {E : Int} {R R' : List UInt8} (h : RP w b c E R R') : rDone E R' = rDone E R := by
  unfold rDone
  by_cases hE : E = 0
  · rw [h.ok hE]
  · rw [if_neg (fun hh => hE hh.1), if_neg (fun hh => hE hh.1)]
theorem RP.kept {F : Nat → Prop} {w w' : World} {b c : Nat} {E : Int} {R R' : List UInt8} (h : RP w b c E R R') (hk : Kept F w w') (hb : ¬ F b) (hc : ¬ F c) : RP w' b c E R R' :=
  ⟨h.one.kept hk hb, h.two.kept hk hc, h.ne, h.ok, h.no, h.len⟩
theorem RP.below {w w' : World} {b c : Nat} {E : Int} {R R' : List UInt8} (h : RP w b c E R R') (hb : Below w.heap.size w w') : RP w' b c E R R' :=
  h.kept (Kept.of_below (F := fun _ => False) hb) (fun h => h) (fun h => h)

theorem take_same (E : Int) (R R' : List UInt8) (k k' : Nat) (cd cd' : Int) (hok : E = 0 → R = R') (hk : E = 0 → k = k' ∧ cd = cd') :
    (takeP E R k cd).1 = (refTakeP E R' k' cd').1 ∧ (takeP E R k cd).2.2 = (refTakeP E R' k' cd').2.2 ∧ ((takeP E R k cd).1 = 0 → (takeP E R k cd).2.1 = (refTakeP E R' k' cd').2.1) ∧
    ((takeP E R k cd).1 ≠ 0 → (takeP E R k cd).2.1 = []) ∧ ((takeP E R k cd).2.2 = true → E = 0) ∧ (takeP E R k cd).2.1.length ≤ R.length ∧ (refTakeP E R' k' cd').2.1.length ≤ R'.length := by
  unfold takeP refTakeP
  by_cases hE : E = 0
  · obtain ⟨rfl, rfl⟩ := hk hE
    obtain rfl := hok hE
    subst hE
    by_cases hc : cd = 0
    · simp [hc]
    · simp [hc]
  · simp [hE]

/-- One call of both, put together. -/
theorem rp_step {w wa wb wc : World} {b c : Nat} {E : Int} {R R' : List UInt8} {k k' : Nat} {cd cd' : Int} (h : RP w b c E R R') (hk : E = 0 → k = k' ∧ cd = cd')
    (ha : Below w.heap.size w wa) (x1 : RAt 77 wb b (takeP E R k cd).2.1 (errOf (takeP E R k cd).1)) (y1 : Kept (fun j => j = b) wa wb)
    (x2 : RAt 79 wc c (refTakeP E R' k' cd').2.1 (.int .i64 (refTakeP E R' k' cd').1)) (y2 : Kept (fun j => j = c) wb wc) :
    RP wc b c (takeP E R k cd).1 (takeP E R k cd).2.1 (refTakeP E R' k' cd').2.1 ∧ Kept (fun j => j = b ∨ j = c) w wc := by
  obtain ⟨e1, e2, e3, e4, e5, e6, e7⟩ := take_same E R R' k k' cd cd' h.ok hk
  rw [← e1] at x2
  refine ⟨⟨x1.kept y2 h.ne, x2, h.ne, e3, e4, Nat.le_trans e6 h.len.1, Nat.le_trans e7 h.len.2⟩, ?_⟩
  exact (Kept.of_below ha).trans ((y1.mono (fun j hj => .inl hj)).trans (y2.mono (fun j hj => .inr hj)))

set_option maxRecDepth 100000 in
set_option maxHeartbeats 2000000 in
theorem reads_any (w : World) (b c : Nat) (E : Int) (R R' : List UInt8) (o : OpD) (ho : OpOk o) (h : RP w b c E R R') :
    Calls Tryd.prog 21 #[.pointer (some ⟨b, 0, none⟩), .pointer (some ⟨c, 0, none⟩), .agg #[.int .i64 o.kind, .int .i64 o.on, .int .i64 o.size, .int .i64 o.n, .string o.s]] w fun e w' =>
      e = .returned (.bool true) ∧ (∃ E2 R2 R2', RP w' b c E2 R2 R2') ∧ Kept (fun j => j = b ∨ j = c) w w' := by
  obtain ⟨kind, on, size, n, s⟩ := o
  obtain ⟨o1, o2, o3, o4, o5⟩ := ho
  simp only at o1 o2 o3 o4 o5 ⊢
  have HP := hide h
  have hb0 : Hid (b < w.heap.size) := h.one.lt
  have hc0 : Hid (c < w.heap.size) := h.two.lt
  clear h
  by_cases k1 : kind = 1
  · subst k1
    have hVV : (rNum E R size).1 = (if (refTakeP E R' size.toNat (rnumC R' size)).2.2 then rnumV R' size else 0) := by
      obtain ⟨e1, e2, e3, e4, e5, _⟩ := take_same E R R' size.toNat size.toNat (rnumC R size) (rnumC R' size) HP.out.ok (fun hE => by rw [HP.out.ok hE]; exact ⟨rfl, rfl⟩)
      unfold rNum
      rw [← e2]
      by_cases ht : (takeP E R size.toNat (rnumC R size)).2.2 = true
      · rw [if_pos ht, if_pos ht, HP.out.ok (e5 ht)]
      · rw [if_neg ht, if_neg ht]
    obtain ⟨V, hV⟩ : ∃ V, V = (rNum E R size).1 := ⟨_, rfl⟩
    rw [← hV] at hVV
    have HV := hide hV; have HVV := hide hVV
    clear hV hVV
    go_enter Tryd.func21, Tryd.ntmps21
    go_wp2_with fail
    refine (rNum_any _ b E R size HP.out.len.1 (HP.out.one.below (Below.alloc (Below.refl _ _) (Nat.le_refl _) _))).mono ?_
    rintro e w1 ⟨rfl, x1, y1⟩
    have X1 := hide x1; have Y1 := hide y1
    clear x1 y1
    have hx2 : w1.cell? ⟨w.heap.size, 2, none⟩ = some (.int .i64 size) := by rw [Y1.out.cell (p := ⟨w.heap.size, 2, none⟩) (by simp) (Nat.ne_of_gt hb0.out)]; simp
    rw [← HV.out]
    go_wp2_with fail
    refine (refRNum_any _ c E R' size HP.out.len.2 ((HP.out.two.below (Below.alloc (Below.refl _ _) (Nat.le_refl _) _)).kept Y1.out (Ne.symm HP.out.ne))).mono ?_
    rintro e w2 ⟨rfl, x2, y2⟩
    have Z := hide (rp_step HP.out (fun hE => by rw [HP.out.ok hE]; exact ⟨rfl, rfl⟩) (Below.alloc (Below.refl _ _) (Nat.le_refl _) _) X1.out Y1.out x2 y2)
    clear x2 y2
    rw [← HVV.out]
    go_wp2
    go_ret
    exact ⟨rfl, ⟨_, _, _, Z.out.1⟩, Z.out.2⟩
  have b1 : (kind == 1) = false := by simpa using k1
  by_cases k2 : kind = 2
  · subst k2
    have hVV : (rText E R n).1 = (if (refTakeP E R' (2 + (rtextS R' n).length) (rtextC R' n)).2.2 then rtextS R' n else []) := by
      obtain ⟨e1, e2, e3, e4, e5, _⟩ := take_same E R R' (2 + (rtextS R n).length) (2 + (rtextS R' n).length) (rtextC R n) (rtextC R' n) HP.out.ok (fun hE => by rw [HP.out.ok hE]; exact ⟨rfl, rfl⟩)
      unfold rText
      rw [← e2]
      by_cases ht : (takeP E R (2 + (rtextS R n).length) (rtextC R n)).2.2 = true
      · rw [if_pos ht, if_pos ht, HP.out.ok (e5 ht)]
      · rw [if_neg ht, if_neg ht]
    obtain ⟨V, hV⟩ : ∃ V, V = (rText E R n).1 := ⟨_, rfl⟩
    rw [← hV] at hVV
    have HV := hide hV; have HVV := hide hVV
    clear hV hVV
    go_enter Tryd.func21, Tryd.ntmps21
    go_wp2_with fail
    refine (rText_any _ b E R n HP.out.len.1 (HP.out.one.below (Below.alloc (Below.refl _ _) (Nat.le_refl _) _))).mono ?_
    rintro e w1 ⟨rfl, x1, y1⟩
    have X1 := hide x1; have Y1 := hide y1
    clear x1 y1
    have hx2 : w1.cell? ⟨w.heap.size, 3, none⟩ = some (.int .i64 n) := by rw [Y1.out.cell (p := ⟨w.heap.size, 3, none⟩) (by simp) (Nat.ne_of_gt hb0.out)]; simp
    rw [← HV.out]
    go_wp2_with fail
    refine (refRText_any _ c E R' n HP.out.len.2 ((HP.out.two.below (Below.alloc (Below.refl _ _) (Nat.le_refl _) _)).kept Y1.out (Ne.symm HP.out.ne))).mono ?_
    rintro e w2 ⟨rfl, x2, y2⟩
    have Z := hide (rp_step HP.out (fun hE => by rw [HP.out.ok hE]; exact ⟨rfl, rfl⟩) (Below.alloc (Below.refl _ _) (Nat.le_refl _) _) X1.out Y1.out x2 y2)
    clear x2 y2
    rw [← HVV.out]
    go_wp2
    go_ret
    exact ⟨rfl, ⟨_, _, _, Z.out.1⟩, Z.out.2⟩
  have b2 : (kind == 2) = false := by simpa using k2
  by_cases k3 : kind = 3
  · subst k3
    have hVV : (rRaw E R n).1 = (if (refTakeP E R' n.toNat (rawC R' n)).2.2 then rawS R' n else []) := by
      obtain ⟨e1, e2, e3, e4, e5, _⟩ := take_same E R R' n.toNat n.toNat (rawC R n) (rawC R' n) HP.out.ok (fun hE => by rw [HP.out.ok hE]; exact ⟨rfl, rfl⟩)
      unfold rRaw
      rw [← e2]
      by_cases ht : (takeP E R n.toNat (rawC R n)).2.2 = true
      · rw [if_pos ht, if_pos ht, HP.out.ok (e5 ht)]
      · rw [if_neg ht, if_neg ht]
    obtain ⟨V, hV⟩ : ∃ V, V = (rRaw E R n).1 := ⟨_, rfl⟩
    rw [← hV] at hVV
    have HV := hide hV; have HVV := hide hVV
    clear hV hVV
    go_enter Tryd.func21, Tryd.ntmps21
    go_wp2_with fail
    refine (rRaw_any _ b E R n HP.out.len.1 (HP.out.one.below (Below.alloc (Below.refl _ _) (Nat.le_refl _) _))).mono ?_
    rintro e w1 ⟨rfl, x1, y1⟩
    have X1 := hide x1; have Y1 := hide y1
    clear x1 y1
    have hx2 : w1.cell? ⟨w.heap.size, 3, none⟩ = some (.int .i64 n) := by rw [Y1.out.cell (p := ⟨w.heap.size, 3, none⟩) (by simp) (Nat.ne_of_gt hb0.out)]; simp
    rw [← HV.out]
    go_wp2_with fail
    refine (refRRaw_any _ c E R' n HP.out.len.2 ((HP.out.two.below (Below.alloc (Below.refl _ _) (Nat.le_refl _) _)).kept Y1.out (Ne.symm HP.out.ne))).mono ?_
    rintro e w2 ⟨rfl, x2, y2⟩
    have Z := hide (rp_step HP.out (fun hE => by rw [HP.out.ok hE]; exact ⟨rfl, rfl⟩) (Below.alloc (Below.refl _ _) (Nat.le_refl _) _) X1.out Y1.out x2 y2)
    clear x2 y2
    rw [← HVV.out]
    go_wp2
    go_ret
    exact ⟨rfl, ⟨_, _, _, Z.out.1⟩, Z.out.2⟩
  have b3 : (kind == 3) = false := by simpa using k3
  clear k1 k2 k3
  have HB : Hid (Below w.heap.size w (w.alloc (.cells #[.int .i64 kind, .int .i64 on, .int .i64 size, .int .i64 n, .string s] 36))) := Below.alloc (Below.refl _ _) (Nat.le_refl _) _
  go_enter Tryd.func21, Tryd.ntmps21
  go_wp2
  go_ret
  exact ⟨rfl, ⟨E, R, R', HP.out.below HB.out⟩, Kept.of_below HB.out⟩
end Go.Proofs.YtonoobjpafhogaaDoor
