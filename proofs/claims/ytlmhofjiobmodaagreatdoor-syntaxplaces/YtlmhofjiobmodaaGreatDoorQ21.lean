/-
  The writer's cond of any condition that it writes. Condition: no more than its kinds have, the numbers 1, 9, 80.
-/
import Derived.Test.YtlmhofjiobmodaaGreatDoorQ20
import Derived.Test.YtlmhofjiobmodaaGreatDoorQ18
import Derived.Deep.DeepCutAuto
import Derived.Deep.CutBlock
namespace Go.Proofs.YtlmhofjiobmodaaGreatDoor
open Go.RowKit Go.Lib

theorem cond_all : ∀ f, CondC f
  | 0 => fun c place deep s x w base wp b0 vs bs _ _ _ _ _ hx => by cases hx
  | f + 1 => fun c place deep s x w base wp b0 vs bs hp hd hs h hc hx => by
    have hC := cond_all f
    obtain ⟨hno, hsp, hkd⟩ := hs
    rw [condW] at hx
    have hkk := hno
    unfold NoM at hkk
    rcases hkk with ⟨hk | hk, _⟩ | ⟨hk, _⟩ | ⟨hk | hk | hk, _⟩ | ⟨hk, _⟩
    · rw [hk] at hx
      exact cond_one (M := fun a => tstW c a) hk (by omega) hp hno h hc (fun V a b r k e => test_ok r k hsp e) hx
    · rw [hk] at hx
      exact cond_two (M := fun a => tstW c a) hk (by omega) hp hno h hc (fun V a b r k e => test_ok r k hsp e) hx
    · rw [hk] at hx
      exact cond_name (M := fun a => namW c.nm a) hk (by omega) hp hno h hc (fun V a b r k e => name_ok r e) hx
    · rw [hk] at hx
      exact cond_not (M := fun a => notW (fun d => condW f d 2) c.kids a) hk (by omega) hp hno h hc (fun V a b r k e => not_ok hC (by omega) hkd r k e) hx
    · rw [hk] at hx
      exact cond_and (M := fun a => rowW (fun d => condW f d 2) wAnd c.kids a) hk (by omega) hp hno h hc (fun V a b r k e => wrow_ok (parts := 2) hC (by omega) (by omega) hkd r k e) hx
    · rw [hk] at hx
      exact cond_or (M := fun a => rowW (fun d => condW f d 1) wOr c.kids a) hk (by omega) hp hno h hc (fun V a b r k e => wrow_ok (parts := 1) hC (by omega) (by omega) hkd r k e) hx
    · rw [hk] at hx
      exact cond_port (M := fun a => tstW c a) hk (by omega) hp hno h hc (fun V a b r k e => test_ok r k hsp e) hx
end Go.Proofs.YtlmhofjiobmodaaGreatDoor
/-
  The reader's not by its contract. Condition: conditions are read so.
-/
namespace Go.Proofs.YtlmhofjiobmodaaGreatDoor
open Go.RowKit Go.Lib

section
variable {P : Program} {ops : Array Oper} {Q : Exit → Act → World → Prop} {md : Region.Mode} {S : World → Prop} {z : Nat}
/-- Two may come up. -/
theorem UntH.two {i j n : Nat} {oi oj : Oper} {done : Array Bool} {a : Act} {w : World} (hr : Region.ready md ops done = [i, j]) (hi : ops[i]? = some oi) (hj : ops[j]? = some oj)
    (h1 : ∀ K' : Act → World → Prop, Shut (∀ a w, S w → UntH P md ops Q S z n (done.setIfInBounds i true) a w → K' a w) → if Region.wanted oi (yielded ops a.tmps) = true then Oper.wp P oi a w K' Q else K' (a.put oi.dst undef) w)
    (h2 : ∀ K' : Act → World → Prop, Shut (∀ a w, S w → UntH P md ops Q S z n (done.setIfInBounds j true) a w → K' a w) → if Region.wanted oj (yielded ops a.tmps) = true then Oper.wp P oj a w K' Q else K' (a.put oj.dst undef) w) : UntH P md ops Q S z (n + 1) done a w :=
  ⟨fun h0 => (by rw [hr] at h0; cases h0), fun k hk => by
    rw [hr] at hk
    rcases List.mem_cons.1 hk with rfl | hk
    · exact wpOp_step hi (fun K' hK => h1 K' (fun a w h3 h4 => hK a w ⟨fun _ => h3, h4⟩))
    · obtain rfl := List.mem_singleton.1 hk
      exact wpOp_step hj (fun K' hK => h2 K' (fun a w h3 h4 => hK a w ⟨fun _ => h3, h4⟩))⟩
end
/-- The only part of a negation. -/
theorem RowA.sole {w w' : World} {base b1 P G : Nat} {kind p : Int} {c : CT} {a0 a1 a2 a3 a4 a5 a6 a7 : Value} {bs : List Nat} (hc : CtAt w b1 c [a0, a1, a2, a3, a4, a5, a6, a7] bs) (hn : bs.Nodup) (hb : base ≤ b1) (hk : Kept (fun k => k = P) w w') (hG : w.heap.size ≤ G) (hP : P < b1) (hB : base ≤ P) (hbw : b1 ≤ w.heap.size)
    (hg : w'.heap[G]? = some (.cells #[a0, a1, a2, a3, a4, a5, a6, a7] 60 (0, 0))) (hp : w'.heap[P]? = some (.cells #[.int .i64 kind, .string ⟨#[]⟩, .string ⟨#[]⟩, .slice none 0 0, .slice none 0 0, .slice none 0 0, .slice (some ⟨G, 0, none⟩) 1 1, .int .i64 p] 60 (0, 0))) :
    RowA w' base P kind p [c] (.slice (some ⟨G, 0, none⟩) 1 1) [a0, a1, a2, a3, a4, a5, a6, a7] bs := by
  have hl := CtAt.lt hc
  refine ⟨hp, ⟨rfl, .inr ⟨G, 1, _, rfl, by omega, hg, Nat.le_refl _, by unfold maxLen; omega, rfl, rfl⟩⟩, ⟨_, bs, [], [], by simp, by simp, hc.frame hk (fun k h => by rw [h]; exact hP) hb, rfl, rfl⟩, hB, ?_⟩
  show (P :: ([G] ++ bs)).Nodup
  refine List.nodup_cons.2 ⟨fun hm => ?_, List.nodup_cons.2 ⟨fun hm => ?_, hn⟩⟩
  · rcases List.mem_cons.1 hm with e | hm
    · omega
    · have := (hl P hm).1
      omega
  · have := (hl G hm).2
    omega
set_option maxRecDepth 100000 in
set_option maxHeartbeats 8000000 in
theorem not_any {rbase rp g cap : Nat} {Ts : List Tk} {f i : Nat} {w : World} (hf : 4 * (Ts.length - i) + 3 ≤ f + 1) (IH2 : ∀ (l : Nat) (V : World), l ≤ Ts.length → 4 * (Ts.length - l) + 3 ≤ f → RdA V rbase rp g cap Ts l → Calls Tryz.prog 77 #[.pointer (some ⟨rp, 0, none⟩), .int .i64 2] V (PostC rbase rp g cap Ts V (condP Ts f 2 l))) (IH3 : ∀ (l : Nat) (V : World), l ≤ Ts.length → 4 * (Ts.length - l) + 2 ≤ f → RdA V rbase rp g cap Ts l → Calls Tryz.prog 77 #[.pointer (some ⟨rp, 0, none⟩), .int .i64 3] V (PostC rbase rp g cap Ts V (condP Ts f 3 l))) (hR : RdA w rbase rp g cap Ts i) :
    Calls Tryz.prog 118 #[.pointer (some ⟨rp, 0, none⟩), .agg #[.string ⟨#[110, 111, 116]⟩, .int .i64 4, .int .i64 2]] w (PostC rbase rp g cap Ts w (condP Ts (f + 1) 2 i)) := by
  obtain ⟨x, hx⟩ : ∃ x, x = condP Ts (f + 1) 2 i := ⟨_, rfl⟩
  rw [← hx]
  rw [condP_two] at hx
  have HX := hide hx
  have HF := hide hf
  have HI2 := hide IH2
  have HI3 := hide IH3
  obtain ⟨B, hB⟩ : ∃ B, B = w.heap.size := ⟨_, rfl⟩
  obtain ⟨Q, hQ⟩ : ∃ Q, Q = w.heap.size + 1 := ⟨_, rfl⟩
  obtain ⟨W, hW⟩ : ∃ W, W = (w.alloc (.cells #[.string ⟨#[110, 111, 116]⟩, .int .i64 4, .int .i64 2] 151)).alloc (.cells #[.int .i64 0, .string ⟨#[]⟩, .string ⟨#[]⟩, .slice none 0 0, .slice none 0 0, .slice none 0 0, .slice none 0 0, .int .i64 0] 60) := ⟨_, rfl⟩
  have X0 := hide (show Below w.heap.size w W by rw [hW]; exact al (al (Below.refl _ _) _) _)
  have B0 := hide (show W.heap[B]? = some (.cells #[.string ⟨#[110, 111, 116]⟩, .int .i64 4, .int .i64 2] 151 (0, 0)) by
    rw [hW, hB]
    exact (heap_alloc_old _ _ (by simp)).trans (heap_alloc_new w _))
  have Q0 := hide (show W.heap[Q]? = some (.cells #[.int .i64 0, .string ⟨#[]⟩, .string ⟨#[]⟩, .slice none 0 0, .slice none 0 0, .slice none 0 0, .slice none 0 0, .int .i64 0] 60 (0, 0)) by
    rw [hW, hQ, show w.heap.size + 1 = (w.alloc (.cells #[.string ⟨#[110, 111, 116]⟩, .int .i64 4, .int .i64 2] 151)).heap.size by simp]
    exact heap_alloc_new _ _)
  have R0 := hide (hR.below X0.out)
  have HSZ : Hid (B = w.heap.size ∧ Q = w.heap.size + 1 ∧ W.heap.size = w.heap.size + 2) := ⟨hB, hQ, by rw [hW]; simp⟩
  have HGL : Hid (rp < B ∧ g < B) := by have := hR.gl; unfold Hid; omega
  have HLT := hide hR.lt
  have HFEW := hide hR.few
  have HW := hide (isWord_any' R0.out wNot)
  have hwn : (⟨wNot.toArray⟩ : ByteArray) = ⟨#[110, 111, 116]⟩ := rfl
  rw [hwn] at HW
  have g0 : W.cell? ⟨B, 0, none⟩ = some (.string ⟨#[110, 111, 116]⟩) := by rw [cell_of_row _ _ _ _ _ _ B0.out]; rfl
  clear hx hf IH2 IH3 hR hwn
  go_enter Tryz.func118, Tryz.ntmps118
  go_upto_region 1 with fail
  rw [← hQ, ← hW, ← hB]
  clear hQ hW hB
  have nB : B ≠ rp := by have := HGL.out; omega
  have nQ : Q ≠ rp := by have := HGL.out; have := HSZ.out; omega
  by_cases hw : isT Ts 1 wNot i = true
  · have HN : Hid (i + 1 < Ts.length) := R0.out.next (by rw [isT_kind hw]; decide)
    have HK1 : Hid ((tok Ts i).k = 1) := isT_kind hw
    have HX2 : Hid (x = (condP Ts f 2 (i + 1)).bind fun c j => overP (.mk 4 [] [] [] [] [] [c] (tok Ts i).p) j) := by unfold Hid; rw [HX.out, if_pos hw]
    rw [hw] at HW
    clear hw HX HI3
    go_upto_region 3 with (go_at_call 72; refine HW.out.mono ?_; rintro e w1 ⟨rfl, x1⟩; have X1 := hide x1; clear x1)
    have R1 := hide (R0.out.below X1.out)
    have B1 := hide ((X1.out.block B (lt_of_block B0.out)).trans B0.out)
    have Q1 := hide ((X1.out.block Q (lt_of_block Q0.out)).trans Q0.out)
    have XA := hide (bt X0.out X1.out (Nat.le_refl _))
    clear g0 HW X1 R0 B0 Q0 X0
    obtain ⟨z, hz⟩ : ∃ z, z = tok Ts i := ⟨_, rfl⟩
    rw [← hz] at HX2
    have HZ := hide hz
    clear hz
    go_cut [5] (fun s5 wx => ∃ P, s5 = .pointer (some ⟨P, 0, none⟩) ∧ Hid (wx.heap[P]? = some (.cells #[.int .i64 4, .string ⟨#[]⟩, .string ⟨#[]⟩, .slice none 0 0, .slice none 0 0, .slice none 0 0, .slice none 0 0, .int .i64 z.p] 60 (0, 0))) ∧ Hid (Q < P ∧ W.heap.size ≤ P) ∧ Hid (RdA wx rbase rp g cap Ts (i + 1)) ∧ Hid (wx.heap[B]? = some (.cells #[.string ⟨#[110, 111, 116]⟩, .int .i64 4, .int .i64 2] 151 (0, 0))) ∧ Hid (wx.heap[Q]? = some (.cells #[.int .i64 0, .string ⟨#[]⟩, .string ⟨#[]⟩, .slice none 0 0, .slice none 0 0, .slice none 0 0, .slice none 0 0, .int .i64 0] 60 (0, 0))) ∧ Hid (Kept (fun k => k = rp) w wx))
    case first =>
      refine wp_unt (S := fun V => V.cell? ⟨B, 1, none⟩ = some (.int .i64 4)) 7 (by kernel_rfl) ?_
      have HS0 : Hid (Below w1.heap.size w1 w1.drew) := (Below.refl _ _).drew
      have R2 := hide (R1.out.below HS0.out)
      have B2 := hide ((HS0.out.block B (lt_of_block B1.out)).trans B1.out)
      have Q2 := hide ((HS0.out.block Q (lt_of_block Q1.out)).trans Q1.out)
      have XB := hide (bt XA.out HS0.out (Nat.le_refl _))
      clear HS0 R1 B1 Q1 XA
      generalize w1.drew = w2 at *
      have SF : Hid (∀ V : World, V.heap[B]? = some (.cells #[.string ⟨#[110, 111, 116]⟩, .int .i64 4, .int .i64 2] 151 (0, 0)) → V.cell? ⟨B, 1, none⟩ = some (.int .i64 4)) := fun V h1 => by rw [cell_of_row _ _ _ _ _ _ h1]; rfl
      have S2 := hide (SF.out w2 B2.out)
      have hf := fld4
      refine UntH.take (i := 0) (some 17) rfl rfl (by kernel_rfl) (by kernel_rfl) (by kernel_rfl) (by kernel_rfl) (fun _ _ _ _ h => h) (by rfl) S2.out ?_
      apply Exists.intro
      refine ⟨fun w' hw' => ?_, ?_⟩
      · have q1 := hw'
        go_simp
        first | done | rfl
      try simp only [Act.put, List.setIfInBounds_toArray, List.set_cons_zero, List.set_cons_succ]
      refine UntH.take (i := 1) (some 18) rfl rfl (by kernel_rfl) (by kernel_rfl) (by kernel_rfl) (by kernel_rfl) (fun _ _ _ _ h => h) (by rfl) S2.out ?_
      apply Exists.intro
      refine ⟨fun w' hw' => ?_, ?_⟩
      · have q1 := hw'
        go_simp
        first | done | rfl
      try simp only [Act.put, List.setIfInBounds_toArray, List.set_cons_zero, List.set_cons_succ]
      refine UntH.take (i := 2) (some 19) rfl rfl (by kernel_rfl) (by kernel_rfl) (by kernel_rfl) (by kernel_rfl) (fun _ _ _ _ h => h) (by rfl) S2.out ?_
      apply Exists.intro
      refine ⟨fun w' hw' => ?_, ?_⟩
      · have q1 := hw'
        go_simp
        first | done | rfl
      try simp only [Act.put, List.setIfInBounds_toArray, List.set_cons_zero, List.set_cons_succ]
      refine UntH.two (i := 3) (j := 6) (by kernel_rfl) rfl rfl (fun K hK => ?_) (fun K hK => ?_)
      · have HT := hide (takeR_ok R2.out HK1.out (by decide))
        unfold tkV at HT
        rw [← HZ.out] at HT
        go_simp
        refine HT.out.mono ?_
        rintro e w3 ⟨rfl, r3, k3⟩
        have R3 := hide r3
        have B3 := hide ((k3.block B (lt_of_block B2.out) nB).trans B2.out)
        have Q3 := hide ((k3.block Q (lt_of_block Q2.out) nQ).trans Q2.out)
        have K3 := hide ((Kept.of_below (F := fun k => k = rp) XB.out).trans k3)
        have S3 := hide (SF.out w3 B3.out)
        refine hK _ _ S3.out ?_
        clear hK K r3 k3 R2 B2 Q2 XB S2 HT
        try simp only [Act.put, List.setIfInBounds_toArray, List.set_cons_zero, List.set_cons_succ]
        refine UntH.take (i := 4) (some 21) rfl rfl (by kernel_rfl) (by kernel_rfl) (by kernel_rfl) (by kernel_rfl) (fun _ _ _ _ h => h) (by rfl) S3.out ?_
        apply Exists.intro
        refine ⟨fun w' hw' => ?_, ?_⟩
        · have q1 := hw'
          go_simp
          first | done | rfl
        try simp only [Act.put, List.setIfInBounds_toArray, List.set_cons_zero, List.set_cons_succ]
        refine UntH.take (i := 5) (some 22) rfl rfl (by kernel_rfl) (by kernel_rfl) (by kernel_rfl) (by kernel_rfl) (fun _ _ _ _ h => h) (by rfl) S3.out ?_
        apply Exists.intro
        refine ⟨fun w' hw' => ?_, ?_⟩
        · have q1 := hw'
          go_simp
          first | done | rfl
        try simp only [Act.put, List.setIfInBounds_toArray, List.set_cons_zero, List.set_cons_succ]
        have X4 : Hid (Below w3.heap.size w3 (w3.alloc (.cells #[.int .i64 0, .string ⟨#[]⟩, .string ⟨#[]⟩, .slice none 0 0, .slice none 0 0, .slice none 0 0, .slice none 0 0, .int .i64 0] 60))) := al (Below.refl _ _) _
        have B4 := hide ((X4.out.block B (lt_of_block B3.out)).trans B3.out)
        have S4 := hide (SF.out (w3.alloc (.cells #[.int .i64 0, .string ⟨#[]⟩, .string ⟨#[]⟩, .slice none 0 0, .slice none 0 0, .slice none 0 0, .slice none 0 0, .int .i64 0] 60)) B4.out)
        refine UntH.step (i := 6) (by kernel_rfl) rfl (fun K hK => ?_)
        go_simp
        refine hK _ _ S4.out ?_
        clear hK K
        try simp only [Act.put, List.setIfInBounds_toArray, List.set_cons_zero, List.set_cons_succ]
        refine UntH.last (by kernel_rfl) rfl (by kernel_rfl) (by kernel_rfl) (fun K hK => ?_)
        go_simp
        refine hK _ _ ?_
        clear hK K
        clear B4 S4 X4 S3 SF hf
        have X4 : Hid (Below w3.heap.size w3 (w3.alloc (.cells #[.int .i64 4, .string ⟨#[]⟩, .string ⟨#[]⟩, .slice none 0 0, .slice none 0 0, .slice none 0 0, .slice none 0 0, .int .i64 z.p] 60))) := al (Below.refl _ _) _
        have P4 := hide (heap_alloc_new w3 (.cells #[.int .i64 4, .string ⟨#[]⟩, .string ⟨#[]⟩, .slice none 0 0, .slice none 0 0, .slice none 0 0, .slice none 0 0, .int .i64 z.p] 60))
        have HPP : Hid (Q < w3.heap.size ∧ W.heap.size ≤ w3.heap.size) := by have := lt_of_block Q3.out; have := HSZ.out; unfold Hid; omega
        have R4 := hide (R3.out.below X4.out)
        have B4 := hide ((X4.out.block B (lt_of_block B3.out)).trans B3.out)
        have Q4 := hide ((X4.out.block Q (lt_of_block Q3.out)).trans Q3.out)
        have K4 := hide (K3.out.trans (Kept.of_below X4.out))
        clear R3 B3 Q3 K3 X4
        try go_wp2
        go_meet
        exact ⟨_, rfl, P4, HPP, R4, B4, Q4, K4⟩
      · have X3 : Hid (Below w2.heap.size w2 (w2.alloc (.cells #[.int .i64 0, .string ⟨#[]⟩, .string ⟨#[]⟩, .slice none 0 0, .slice none 0 0, .slice none 0 0, .slice none 0 0, .int .i64 0] 60))) := al (Below.refl _ _) _
        have P3 := hide (heap_alloc_new w2 (.cells #[.int .i64 0, .string ⟨#[]⟩, .string ⟨#[]⟩, .slice none 0 0, .slice none 0 0, .slice none 0 0, .slice none 0 0, .int .i64 0] 60))
        have R3 := hide (R2.out.below X3.out)
        have B3 := hide ((X3.out.block B (lt_of_block B2.out)).trans B2.out)
        have Q3 := hide ((X3.out.block Q (lt_of_block Q2.out)).trans Q2.out)
        have S3 := hide (SF.out _ B3.out)
        have XC := hide (bt XB.out X3.out (Nat.le_refl _))
        go_simp
        refine hK _ _ S3.out ?_
        clear hK K
        obtain ⟨P, hP⟩ : ∃ P, P = w2.heap.size := ⟨_, rfl⟩
        rw [← hP] at P3
        have HPP : Hid (Q < P ∧ W.heap.size ≤ P) := by have := lt_of_block Q2.out; have := HSZ.out; unfold Hid; omega
        try simp only [Act.put, List.setIfInBounds_toArray, List.set_cons_zero, List.set_cons_succ]
        rw [← hP]
        clear X3 XB R2 B2 Q2 S2 hP
        generalize w2.alloc (.cells #[.int .i64 0, .string ⟨#[]⟩, .string ⟨#[]⟩, .slice none 0 0, .slice none 0 0, .slice none 0 0, .slice none 0 0, .int .i64 0] 60) = wq at *
        have HT := hide (takeR_ok R3.out HK1.out (by decide))
        unfold tkV at HT
        rw [← HZ.out] at HT
        refine UntH.step (i := 3) (by kernel_rfl) rfl (fun K hK => ?_)
        go_simp
        refine HT.out.mono ?_
        rintro e w3 ⟨rfl, r3, k3⟩
        have nP : P ≠ rp := by have := HGL.out; have := HPP.out; have := HSZ.out; omega
        have R4 := hide r3
        have B4 := hide ((k3.block B (lt_of_block B3.out) nB).trans B3.out)
        have Q4 := hide ((k3.block Q (lt_of_block Q3.out) nQ).trans Q3.out)
        have P4 := hide ((k3.block P (lt_of_block P3.out) nP).trans P3.out)
        have K4 := hide ((Kept.of_below (F := fun k => k = rp) XC.out).trans k3)
        have S4 := hide (SF.out w3 B4.out)
        refine hK _ _ S4.out ?_
        clear hK K r3 k3 R3 B3 Q3 XC S3 HT P3
        try simp only [Act.put, List.setIfInBounds_toArray, List.set_cons_zero, List.set_cons_succ]
        refine UntH.take (i := 4) (some 21) rfl rfl (by kernel_rfl) (by kernel_rfl) (by kernel_rfl) (by kernel_rfl) (fun _ _ _ _ h => h) (by rfl) S4.out ?_
        apply Exists.intro
        refine ⟨fun w' hw' => ?_, ?_⟩
        · have q1 := hw'
          go_simp
          first | done | rfl
        try simp only [Act.put, List.setIfInBounds_toArray, List.set_cons_zero, List.set_cons_succ]
        refine UntH.take (i := 5) (some 22) rfl rfl (by kernel_rfl) (by kernel_rfl) (by kernel_rfl) (by kernel_rfl) (fun _ _ _ _ h => h) (by rfl) S4.out ?_
        apply Exists.intro
        refine ⟨fun w' hw' => ?_, ?_⟩
        · have q1 := hw'
          go_simp
          first | done | rfl
        try simp only [Act.put, List.setIfInBounds_toArray, List.set_cons_zero, List.set_cons_succ]
        obtain ⟨⟨_, p0⟩, f0, ⟨_, p1⟩, f1, ⟨_, p2⟩, f2, ⟨_, p3⟩, f3, ⟨_, p4⟩, f4, ⟨_, p5⟩, f5, ⟨_, p6⟩, f6, ⟨_, p7⟩, f7, hsb, hsk⟩ := st8 P4.out (.int .i64 4) (.string ⟨#[]⟩) (.string ⟨#[]⟩) (.slice none 0 0) (.slice none 0 0) (.slice none 0 0) (.slice none 0 0) (.int .i64 z.p)
        have HSB := hide hsb
        have KQ := hide hsk
        clear hsb hsk
        refine UntH.last (by kernel_rfl) rfl (by kernel_rfl) (by kernel_rfl) (fun K hK => ?_)
        go_simp
        refine hK _ _ ?_
        clear hK K
        clear p0 f0 p1 f1 p2 f2 p3 f3 p4 f4 p5 f5 p6 f6 p7 f7 S4 SF hf
        generalize ((((((((w3.setCell ⟨P, 0, none⟩ (.int .i64 4)).setCell ⟨P, 1, none⟩ (.string ⟨#[]⟩)).setCell ⟨P, 2, none⟩ (.string ⟨#[]⟩)).setCell ⟨P, 3, none⟩ (.slice none 0 0)).setCell ⟨P, 4, none⟩ (.slice none 0 0)).setCell ⟨P, 5, none⟩ (.slice none 0 0)).setCell ⟨P, 6, none⟩ (.slice none 0 0)).setCell ⟨P, 7, none⟩ (.int .i64 z.p)) = w9 at *
        have hl2 : B ≠ P ∧ Q ≠ P ∧ rp ≠ P ∧ g ≠ P := by have := HGL.out; have := HSZ.out; have := HPP.out; exact ⟨by omega, by omega, by omega, by omega⟩
        have B9 := hide ((KQ.out.block B (lt_of_block B4.out) hl2.1).trans B4.out)
        have Q9 := hide ((KQ.out.block Q (lt_of_block Q4.out) hl2.2.1).trans Q4.out)
        have R9 := hide (R4.out.kept KQ.out hl2.2.2.1 hl2.2.2.2)
        have K9 : Hid (Kept (fun k => k = rp) w w9) := K4.out.fin KQ.out (by have := HPP.out; have := HSZ.out; omega)
        clear hl2 B4 Q4 R4 K4 KQ P4
        try go_wp2
        go_meet
        exact ⟨_, rfl, HSB, HPP, R9, B9, Q9, K9⟩
    case rest =>
      obtain ⟨P, hs5, P4, HPP, R4, B4, Q4, K4⟩ := hcut
      have hs5 := hs5.symm
      subst hs5
      have g2 : wc.cell? ⟨B, 2, none⟩ = some (.int .i64 2) := by rw [cell_of_row _ _ _ _ _ _ B4.out]; rfl
      have HI := hide (HI2.out (i + 1) wc (by have := HN.out; omega) (by have := HF.out; have := HN.out; omega) R4.out)
      have nP : P ≠ rp := by have := HGL.out; have := HPP.out; have := HSZ.out; omega
      go_wp2_with (fail)
      refine HI.out.mono ?_
      intro e w5 hp
      cases hxa : condP Ts f 2 (i + 1) with
      | out => rw [hxa] at hp; exact absurd hp (fun h => h)
      | bad e0 p =>
        rw [hxa] at hp HX2
        obtain ⟨he, k3⟩ := hp
        unfold pan at he
        subst he
        exact ⟨rfl, PostC.badI HX2.out rfl (K4.out.trans k3)⟩
      | ok c j =>
        have HGC := hide (condP_good f 2 (i + 1) c j (by decide) (by have := HN.out; omega) (by have := HF.out; have := HN.out; omega) hxa)
        rw [hxa] at hp HX2
        obtain ⟨⟨vs, bs, rfl, hct, hnd⟩, r3, k3⟩ := hp
        obtain ⟨a3, c3, a4, c4, a5, c5, a6, c6, rfl⟩ := hct.eight
        have C5 := hide hct
        have HND := hide hnd
        have R5 := hide r3
        have Q5 := hide ((k3.block Q (lt_of_block Q4.out) nQ).trans Q4.out)
        have P5 := hide ((k3.block P (lt_of_block P4.out) nP).trans P4.out)
        have K5 := hide (K4.out.trans k3)
        have HP4 : Hid (P < wc.heap.size) := lt_of_block P4.out
        have HS5 : Hid (wc.heap.size ≤ w5.heap.size) := k3.size
        have HX3 : Hid (x = overP (.mk 4 [] [] [] [] [] [c] z.p) j) := HX2.out
        clear hxa hct hnd r3 k3 HX2 HI R4 B4 Q4 P4 K4 g2 HI2
        have X6 : Hid (Below w5.heap.size w5 (w5.alloc (.cells #[.int .i64 c.k, .string ⟨c.nm.toArray⟩, .string ⟨c.tx.toArray⟩, .slice a3 c.pre.length c3, .slice a4 c.sp.length c4, .slice a5 c.ns.length c5, .slice a6 c.kids.length c6, .int .i64 c.p] 60))) := al (Below.refl _ _) _
        have P6 := hide ((X6.out.block P (lt_of_block P5.out)).trans P5.out)
        have h6 : (w5.alloc (.cells #[.int .i64 c.k, .string ⟨c.nm.toArray⟩, .string ⟨c.tx.toArray⟩, .slice a3 c.pre.length c3, .slice a4 c.sp.length c4, .slice a5 c.ns.length c5, .slice a6 c.kids.length c6, .int .i64 c.p] 60)).cell? ⟨P, 6, none⟩ = some (.slice none 0 0) := by rw [cell_of_row _ _ _ _ _ _ P6.out]; rfl
        have f6 := frozen_of_row _ P 6 _ _ P6.out
        have G6 := hide (heap_alloc_new w5 (.cells #[.int .i64 c.k, .string ⟨c.nm.toArray⟩, .string ⟨c.tx.toArray⟩, .slice a3 c.pre.length c3, .slice a4 c.sp.length c4, .slice a5 c.ns.length c5, .slice a6 c.kids.length c6, .int .i64 c.p] 60))
        go_upto_region 5 with fail
        clear h6 f6
        obtain ⟨G, hG⟩ : ∃ G, G = w5.heap.size := ⟨_, rfl⟩
        rw [← hG] at G6
        rw [← hG]
        have HG5 : Hid (G = w5.heap.size) := hG
        have R6 := hide (R5.out.below X6.out)
        have Q6 := hide ((X6.out.block Q (lt_of_block Q5.out)).trans Q5.out)
        have K6 := hide (K5.out.trans (Kept.of_below X6.out))
        have C6 := hide (C5.out.below X6.out)
        have HS6 : Hid (w5.heap.size < (w5.alloc (.cells #[.int .i64 c.k, .string ⟨c.nm.toArray⟩, .string ⟨c.tx.toArray⟩, .slice a3 c.pre.length c3, .slice a4 c.sp.length c4, .slice a5 c.ns.length c5, .slice a6 c.kids.length c6, .int .i64 c.p] 60)).heap.size) := by unfold Hid; simp
        clear hG R5 Q5 P5 K5
        generalize w5.alloc (.cells #[.int .i64 c.k, .string ⟨c.nm.toArray⟩, .string ⟨c.tx.toArray⟩, .slice a3 c.pre.length c3, .slice a4 c.sp.length c4, .slice a5 c.ns.length c5, .slice a6 c.kids.length c6, .int .i64 c.p] 60) = w6 at *
        have K7 : Hid (Kept (fun k => k = P) w6 (w6.setCell ⟨P, 6, none⟩ (.slice (some ⟨G, 0, none⟩) 1 1))) := Kept.setCell (F := fun k => k = P) (p := ⟨P, 6, none⟩) (Kept.refl _ _) rfl _
        have P7 : Hid ((w6.setCell ⟨P, 6, none⟩ (.slice (some ⟨G, 0, none⟩) 1 1)).heap[P]? = some (.cells #[.int .i64 4, .string ⟨#[]⟩, .string ⟨#[]⟩, .slice none 0 0, .slice none 0 0, .slice none 0 0, .slice (some ⟨G, 0, none⟩) 1 1, .int .i64 z.p] 60 (0, 0))) := by
          have := block_setCell' P6.out 6 (.slice (some ⟨G, 0, none⟩) 1 1)
          simpa [Hid] using this
        have nGP : G ≠ P := by have := HG5.out; have := HP4.out; have := HS5.out; omega
        have G7 := hide ((K7.out.block G (lt_of_block G6.out) nGP).trans G6.out)
        have K57 : Hid (Kept (fun k => k = P) w5 (w6.setCell ⟨P, 6, none⟩ (.slice (some ⟨G, 0, none⟩) 1 1))) := (Kept.of_below X6.out).trans K7.out
        have RW : Hid (RowA (w6.setCell ⟨P, 6, none⟩ (.slice (some ⟨G, 0, none⟩) 1 1)) W.heap.size P 4 z.p [c] (.slice (some ⟨G, 0, none⟩) 1 1) _ bs) := RowA.sole C5.out HND.out (by have := HPP.out; have := HP4.out; omega) K57.out (by rw [HG5.out]; exact Nat.le_refl _) HP4.out HPP.out.2 HS5.out G7.out P7.out
        have hl2 : Q ≠ P ∧ rp ≠ P ∧ g ≠ P := by have := HGL.out; have := HSZ.out; have := HPP.out; exact ⟨by omega, by omega, by omega⟩
        have Q7 := hide ((K7.out.block Q (lt_of_block Q6.out) hl2.1).trans Q6.out)
        have R7 := hide (R6.out.kept K7.out hl2.2.1 hl2.2.2)
        have KK7 : Hid (Kept (fun k => k = rp) w (w6.setCell ⟨P, 6, none⟩ (.slice (some ⟨G, 0, none⟩) 1 1))) := Kept.trans_new K6.out K7.out (fun k h1 h2 => absurd h1 (by have := HSZ.out; have := HPP.out; rw [h2]; omega))
        clear hl2 K57 K7 P7 G7 G6 P6 C5 C6 X6 K6 R6 Q6
        generalize w6.setCell ⟨P, 6, none⟩ (.slice (some ⟨G, 0, none⟩) 1 1) = w7 at *
        obtain ⟨q0, q1, q2, q3, q4, q5, q6, q7⟩ := ld8 RW.out.blk
        have HNR : Hid (Nrw 1048576 (.mk 4 [] [] [] [] [] [c] z.p)) := Nrw.of (by show 1 ≤ 1048576; omega) (fun k hk => by
          have hk : k ∈ [c] := hk
          rw [List.mem_singleton.1 hk]
          exact Nrw.mono HFEW.out c HGC.out.2)
        have HDP : Hid (dpt (.mk 4 [] [] [] [] [] [c] z.p) ≤ 1048576) := by
          have e := dpt_kids (.mk 4 [] [] [] [] [] [c] z.p)
          have : dpt.dptL [c] ≤ 16 := dptL_le.2 (fun k hk => by rw [List.mem_singleton.1 hk]; exact HGC.out.1)
          unfold Hid
          rw [e]
          show dpt.dptL [c] + 1 ≤ _
          omega
        have HC7 := hide RW.out.ct
        by_cases hd : dpt (.mk 4 [] [] [] [] [] [c] z.p) ≤ 16
        · have HO := hide (over_ok hd HDP.out HNR.out HC7.out)
          have HM3 : Hid (x = .ok (.mk 4 [] [] [] [] [] [c] z.p) j) := by unfold Hid; rw [HX3.out]; unfold overP; rw [if_neg (by omega)]
          clear hd HX3
          go_wp2_with (fail)
          refine HO.out.mono ?_
          rintro e w8 ⟨rfl, x7⟩
          have X7 := hide x7
          clear x7 HO q0 q1 q2 q3 q4 q5 q6 q7
          have R8 := hide (R7.out.below X7.out)
          have RW8 := hide (RW.out.below X7.out)
          have Q8 := hide ((X7.out.block Q (lt_of_block Q7.out)).trans Q7.out)
          have K8 := hide (KK7.out.trans (Kept.of_below X7.out))
          clear R7 RW Q7 KK7 X7 HC7
          obtain ⟨⟨_, p0⟩, f0, ⟨_, p1⟩, f1, ⟨_, p2⟩, f2, ⟨_, p3⟩, f3, ⟨_, p4⟩, f4, ⟨_, p5⟩, f5, ⟨_, p6⟩, f6, ⟨_, p7⟩, f7, hsb, hsk⟩ := st8 Q8.out (.int .i64 4) (.string ⟨#[]⟩) (.string ⟨#[]⟩) (.slice none 0 0) (.slice none 0 0) (.slice none 0 0) (.slice (some ⟨G, 0, none⟩) 1 1) (.int .i64 z.p)
          have HSB := hide hsb
          have KQ := hide hsk
          clear hsb hsk
          go_wp2
          clear p0 f0 p1 f1 p2 f2 p3 f3 p4 f4 p5 f5 p6 f6 p7 f7
          generalize ((((((((w8.setCell ⟨Q, 0, none⟩ (.int .i64 4)).setCell ⟨Q, 1, none⟩ (.string ⟨#[]⟩)).setCell ⟨Q, 2, none⟩ (.string ⟨#[]⟩)).setCell ⟨Q, 3, none⟩ (.slice none 0 0)).setCell ⟨Q, 4, none⟩ (.slice none 0 0)).setCell ⟨Q, 5, none⟩ (.slice none 0 0)).setCell ⟨Q, 6, none⟩ (.slice (some ⟨G, 0, none⟩) 1 1)).setCell ⟨Q, 7, none⟩ (.int .i64 z.p)) = w9 at *
          obtain ⟨q0, q1, q2, q3, q4, q5, q6, q7⟩ := ld8 HSB.out
          refine bodyPost_ret (by simp [results, Tryz.results118, go_sem, q0, q1, q2, q3, q4, q5, q6, q7]; try rfl) rfl ?_
          refine PostC.okI HM3.out rfl (RW8.out.ct.frame KQ.out (fun k hk => ?_) ?_) (List.nodup_cons.1 RW8.out.nd).2 (R8.out.kept KQ.out ?_ ?_) (K8.out.fin KQ.out ?_)
          · have := HSZ.out
            rw [hk]
            omega
          · have := HSZ.out
            omega
          · have := HGL.out
            have := HSZ.out
            show ¬ rp = Q
            omega
          · have := HGL.out
            have := HSZ.out
            show ¬ g = Q
            omega
          · have := HSZ.out
            omega
        · have HO := hide (over_bad hd HDP.out HNR.out HC7.out)
          have HM3 : Hid (x = .bad 91 z.p) := by unfold Hid; rw [HX3.out]; unfold overP; rw [if_pos (by omega)]; rfl
          clear hd HX3
          go_wp2_with (fail)
          refine HO.out.mono ?_
          rintro e w8 ⟨he, x7⟩
          unfold pan at he
          subst he
          exact ⟨rfl, PostC.badI HM3.out rfl (KK7.out.trans (Kept.of_below x7))⟩

  · have hw' : isT Ts 1 wNot i = false := by simpa using hw
    have HX2 : Hid (x = condP Ts f 3 i) := by unfold Hid; rw [HX.out, if_neg hw]
    rw [hw'] at HW
    clear hw hw' HX HI2
    go_upto_region 2 with (go_at_call 72; refine HW.out.mono ?_; rintro e w1 ⟨rfl, x1⟩; have X1 := hide x1; clear x1)
    have R1 := hide (R0.out.below X1.out)
    have B1 := hide ((X1.out.block B (lt_of_block B0.out)).trans B0.out)
    have Q1 := hide ((X1.out.block Q (lt_of_block Q0.out)).trans Q0.out)
    have XA := hide (bt X0.out X1.out (Nat.le_refl _))
    clear g0 HW X1 R0 B0 Q0 X0
    have g1 : w1.cell? ⟨B, 1, none⟩ = some (.int .i64 4) := by rw [cell_of_row _ _ _ _ _ _ B1.out]; rfl
    have HH := hide (holds_four w1)
    have HI := hide (fun V (y : Below w1.heap.size w1 V) => HI3.out i V (Nat.le_of_lt HLT.out) (by have := HF.out; omega) (R1.out.below y))
    rw [← HX2.out] at HI
    go_wp2_with (go_at_call 138; refine HH.out.mono ?_; rintro e w2 ⟨rfl, x2⟩; have X2 := hide x2; clear x2)
    refine (HI.out _ X2.out).mono ?_
    intro e w3 hp
    have Q2 := hide ((X2.out.block Q (lt_of_block Q1.out)).trans Q1.out)
    have XB := hide (bt XA.out X2.out (Nat.le_refl _))
    cases hxa : x with
    | out => rw [hxa] at hp; exact absurd hp (fun h => h)
    | bad e0 p =>
      rw [hxa] at hp
      obtain ⟨he, k3⟩ := hp
      unfold pan at he
      subst he
      exact ⟨rfl, PostC.badI (by first | exact hxa | rfl) rfl ((Kept.of_below XB.out).trans k3)⟩
    | ok c j =>
      have HXA := hide hxa
      rw [hxa] at hp
      obtain ⟨⟨vs, bs, rfl, hct, hnd⟩, r3, k3⟩ := hp
      obtain ⟨a3, c3, a4, c4, a5, c5, a6, c6, rfl⟩ := hct.eight
      have C3 := hide hct
      have HND := hide hnd
      have R3 := hide r3
      have Q3 := hide ((k3.block Q (lt_of_block Q2.out) nQ).trans Q2.out)
      have K3 := hide ((Kept.of_below (F := fun k => k = rp) XB.out).trans k3)
      have HS2 : Hid (Q < w2.heap.size) := lt_of_block Q2.out
      clear hxa hct hnd r3 k3 HI R1 B1 Q1 Q2 X2 XA XB g1 HH HX2
      obtain ⟨⟨_, p0⟩, f0, ⟨_, p1⟩, f1, ⟨_, p2⟩, f2, ⟨_, p3⟩, f3, ⟨_, p4⟩, f4, ⟨_, p5⟩, f5, ⟨_, p6⟩, f6, ⟨_, p7⟩, f7, hsb, hsk⟩ := st8 Q3.out (.int .i64 c.k) (.string ⟨c.nm.toArray⟩) (.string ⟨c.tx.toArray⟩) (.slice a3 c.pre.length c3) (.slice a4 c.sp.length c4) (.slice a5 c.ns.length c5) (.slice a6 c.kids.length c6) (.int .i64 c.p)
      have HSB := hide hsb
      have KQ := hide hsk
      clear hsb hsk
      go_wp2
      clear p0 f0 p1 f1 p2 f2 p3 f3 p4 f4 p5 f5 p6 f6 p7 f7
      generalize ((((((((w3.setCell ⟨Q, 0, none⟩ (.int .i64 c.k)).setCell ⟨Q, 1, none⟩ (.string ⟨c.nm.toArray⟩)).setCell ⟨Q, 2, none⟩ (.string ⟨c.tx.toArray⟩)).setCell ⟨Q, 3, none⟩ (.slice a3 c.pre.length c3)).setCell ⟨Q, 4, none⟩ (.slice a4 c.sp.length c4)).setCell ⟨Q, 5, none⟩ (.slice a5 c.ns.length c5)).setCell ⟨Q, 6, none⟩ (.slice a6 c.kids.length c6)).setCell ⟨Q, 7, none⟩ (.int .i64 c.p)) = w9 at *
      obtain ⟨q0, q1, q2, q3, q4, q5, q6, q7⟩ := ld8 HSB.out
      refine bodyPost_ret (by simp [results, Tryz.results118, go_sem, q0, q1, q2, q3, q4, q5, q6, q7]; try rfl) rfl ?_
      refine PostC.okI (by first | exact HXA.out | rfl) rfl (C3.out.frame KQ.out (fun k hk => ?_) ?_) HND.out (R3.out.kept KQ.out ?_ ?_) (K3.out.fin KQ.out ?_)
      · have := HS2.out
        rw [hk]
        exact this
      · have := HS2.out
        have := HSZ.out
        omega
      · have := HGL.out
        have := HSZ.out
        show ¬ rp = Q
        omega
      · have := HGL.out
        have := HSZ.out
        show ¬ g = Q
        omega
      · have := HSZ.out
        omega

end Go.Proofs.YtlmhofjiobmodaaGreatDoor
