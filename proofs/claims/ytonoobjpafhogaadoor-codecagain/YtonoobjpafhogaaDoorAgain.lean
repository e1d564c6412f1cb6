/-
  again: what a Reader took up is laid down by the same call as just the bytes that were taken. Conditions: the numbers are ints; a string is no longer than 2^47; the cell of errors.errorType holds the handle of 'error'.
-/
import Derived.Test.YtonoobjpafhogaaDoorRd2
import Derived.Test.YtonoobjpafhogaaDoorPair
import Derived.Test.YtonoobjpafhogaaDoorSize2
namespace Go.Proofs.YtonoobjpafhogaaDoor
open Go.RowKit

theorem be_said (l : List UInt8) : be l.length (said l) = l := by
  generalize hn : l.length = n
  induction n generalizing l with
  | zero => simp [List.eq_nil_of_length_eq_zero hn, be]
  | succ n ih =>
    rcases List.eq_nil_or_concat l with h | ⟨l', b, h⟩
    · simp [h] at hn
    · rw [List.concat_eq_append] at h
      subst h
      have hl : l'.length = n := by simpa using hn
      have hb := b.toNat_lt
      rw [said_snoc, be, show (said l' * 256 + b.toNat) / 256 = said l' by omega, ih l' hl]
      congr 2
      apply UInt8.toNat_inj.1
      simp only [UInt8.toNat_ofNat']
      omega

/-- What CodecAgain holds: a Reader, and, nothing being wrong, a Writer of just the bytes that were taken. -/
structure Ag (L : List UInt8) (N rb wb : Nat) (w wr : World) (E : Int) (R : List UInt8) : Prop where
  rd : RAt 77 wr rb R (errOf E)
  wt : E = 0 → ∃ (F : Nat → Prop) (S : List UInt8), WAt 73 F wr wb L.length (errOf 0) S ∧ ¬ F rb ∧ (∀ k, F k → N ≤ k ∧ k < wr.heap.size) ∧ L = S ++ R
  code : E = 0 ∨ E = 10 ∨ E = 11 ∨ E = 12
  no : E ≠ 0 → R = []
  lo : N ≤ rb
  len : L.length ≤ 140737488351232
  rlen : R.length ≤ L.length
  hg : HG wr
  npos : 0 < N
  ns : N ≤ wr.heap.size
  below : Below N w wr

theorem Ag.quiet {L : List UInt8} {N rb wb : Nat} {w wr wl : World} {E : Int} {R : List UInt8} (h : Ag L N rb wb w wr E R) (hb : Below wr.heap.size wr wl) : Ag L N rb wb w wl E R := by
  have hb' : Below N wr wl := hb.mono h.ns
  refine ⟨h.rd.below hb, fun hE => ?_, h.code, h.no, h.lo, h.len, h.rlen, h.hg.below hb' h.npos, h.npos, Nat.le_trans h.ns hb.size, h.below.trans hb'⟩
  obtain ⟨F, S, h1, h2, h3, h4⟩ := h.wt hE
  exact ⟨F, S, h1.below hb, h2, fun k hk => ⟨(h3 k hk).1, Nat.lt_of_lt_of_le (h3 k hk).2 hb.size⟩, h4⟩

theorem putP_take {L S R : List UInt8} {k : Nat} (hL : L = S ++ R) (hk : k ≤ R.length) : putP L.length 0 S (R.take k) 0 = (0, S ++ R.take k) := by
  apply putP_fits
  rw [hL, List.length_append, List.length_take]
  omega

/-- A call of both, put together. -/
theorem ag_step {L : List UInt8} {N rb wb : Nat} {w wr wa wb' wc : World} {R : List UInt8} {F : Nat → Prop} {S s : List UInt8} {k : Nat} {c cd : Int} (h : Ag L N rb wb w wr 0 R)
    (hF0 : ¬ F rb) (hF : ∀ j, F j → N ≤ j ∧ j < wr.heap.size) (hL : L = S ++ R)
    (ha : Below wr.heap.size wr wa)
    (x1 : RAt 77 wb' rb (takeP 0 R k c).2.1 (errOf (takeP 0 R k c).1)) (y1 : Kept (fun j => j = rb) wa wb')
    (x2 : WAt 73 (fun j => F j ∨ wb'.heap.size ≤ j) wc wb L.length (errOf (putP L.length 0 S s cd).1) (putP L.length 0 S s cd).2) (y2 : Kept F wb' wc)
    (hc : c = 0 ∨ c = 10 ∨ c = 11 ∨ c = 12) (hok : c = 0 → cd = 0 ∧ s = R.take k ∧ k ≤ R.length) :
    Ag L N rb wb w wc (takeP 0 R k c).1 (takeP 0 R k c).2.1 := by
  have hka : Kept (fun j => j = rb ∨ F j) wr wc := (Kept.of_below ha).trans ((y1.mono (fun j hj => .inl hj)).trans (y2.mono (fun j hj => .inr hj)))
  have hbN : Below N wr wc := hka.below h.ns (fun i hi => by
    rcases hi with h1 | h1
    · rw [h1]; exact h.lo
    · exact (hF i h1).1)
  have sz1 := ha.size
  have sz2 := y1.size
  have hrb := h.rd.lt
  have x1' := x1.kept y2 hF0
  by_cases hc0 : c = 0
  · obtain ⟨rfl, rfl, hk⟩ := hok hc0
    subst hc0
    have et : takeP 0 R k 0 = (0, R.drop k, true) := by simp [takeP]
    rw [et] at x1' ⊢
    rw [putP_take hL hk] at x2
    refine ⟨x1', fun _ => ⟨_, _, x2.mono (G := fun j => (F j ∨ wb'.heap.size ≤ j) ∧ j < wc.heap.size) (fun j a b => ⟨a, b⟩), ?_, ?_, ?_⟩, .inl rfl, fun h => absurd rfl h, h.lo, h.len, ?_, h.hg.below hbN h.npos, h.npos, Nat.le_trans h.ns hka.size, h.below.trans hbN⟩
    · rintro ⟨h1 | h1, _⟩
      · exact hF0 h1
      · omega
    · rintro j ⟨h1 | h1, h2⟩
      · exact ⟨(hF j h1).1, h2⟩
      · exact ⟨by have := h.ns; omega, h2⟩
    · rw [List.append_assoc, List.take_append_drop]; exact hL
    · have := h.rlen
      rw [List.length_drop]
      omega
  · have et : takeP 0 R k c = (c, [], false) := by simp [takeP, hc0]
    rw [et] at x1' ⊢
    exact ⟨x1', fun h => absurd h hc0, hc, fun _ => rfl, h.lo, h.len, Nat.zero_le _, h.hg.below hbN h.npos, h.npos, Nat.le_trans h.ns hka.size, h.below.trans hbN⟩

theorem rnumC_code (R : List UInt8) (n : Int) : rnumC R n = 0 ∨ rnumC R n = 10 ∨ rnumC R n = 11 ∨ rnumC R n = 12 := by
  unfold rnumC; repeat (first | omega | split)
theorem rawC_code (R : List UInt8) (n : Int) : rawC R n = 0 ∨ rawC R n = 10 ∨ rawC R n = 11 ∨ rawC R n = 12 := by
  unfold rawC; repeat (first | omega | split)
theorem rtextC_code (R : List UInt8) (n : Int) : rtextC R n = 0 ∨ rtextC R n = 10 ∨ rtextC R n = 11 ∨ rtextC R n = 12 := by
  unfold rtextC; repeat (first | omega | split)
theorem num_back (R : List UInt8) (n : Int) (h : rnumC R n = 0) : numC n (rNum 0 R n).1 = 0 ∧ numS n (rNum 0 R n).1 = R.take n.toNat ∧ n.toNat ≤ R.length := by
  obtain ⟨h1, h2, h3⟩ := rnumC_zero h
  have hv : (rNum 0 R n).1 = said (R.take n.toNat) := by
    simp only [rNum, h, takeP, ne_eq, not_true_eq_false, if_false, if_true, rnumV]
  have hl : (R.take n.toNat).length = n.toNat := by rw [List.length_take]; omega
  have hlt := said_lt (R.take n.toNat)
  rw [hl] at hlt
  have hbig : said (R.take n.toNat) < 9223372036854775808 := by
    unfold rnumC at h
    split at h
    · cases h
    · split at h
      · cases h
      · split at h
        · cases h
        · omega
  have hf : fitsB n.toNat (said (R.take n.toNat) : Nat) = true := by
    rw [fitsB_iff]
    refine ⟨by omega, ?_⟩
    unfold top
    split
    · omega
    · exact_mod_cast hlt
  obtain ⟨e1, e2⟩ := num_yes h1 h2 hf
  rw [hv]
  refine ⟨e1, ?_, by omega⟩
  rw [e2, Int.toNat_natCast]
  have := be_said (R.take n.toNat)
  rw [hl] at this
  exact this
theorem raw_back (R : List UInt8) (n : Int) (h : rawC R n = 0) : (rRaw 0 R n).1 = R.take n.toNat ∧ n.toNat ≤ R.length := by
  obtain ⟨h1, h2⟩ := rawC_zero h
  refine ⟨?_, by omega⟩
  simp only [rRaw, h, takeP, ne_eq, not_true_eq_false, if_false, if_true, rawS]
  rw [if_neg (by omega), if_neg (by omega)]
theorem text_back (R : List UInt8) (n : Int) (h : rtextC R n = 0) : textC (rText 0 R n).1 = 0 ∧ textS (rText 0 R n).1 = R.take (2 + (rtextS R n).length) ∧ 2 + (rtextS R n).length ≤ R.length := by
  obtain ⟨h1, h2, h3⟩ := rtextC_zero h
  have hv : (rText 0 R n).1 = rtextS R n := by simp only [rText, h, takeP, ne_eq, not_true_eq_false, if_false, if_true]
  have h65 := said2_lt R
  have hl2 : (R.take 2).length = 2 := by rw [List.length_take]; omega
  have hbs := be_said (R.take 2)
  rw [hl2, ← h2] at hbs
  have hsv : rtextS R n = (R.drop 2).take (rtextS R n).length := by
    conv => lhs; rw [rtextS, if_pos h]
    rw [h2]
  rw [hv]
  refine ⟨by rw [textC, if_neg (by omega)], ?_, h1⟩
  rw [textS, if_neg (by omega), hbs]
  conv => lhs; rw [hsv]
  rw [List.take_add]

set_option maxRecDepth 100000 in
set_option maxHeartbeats 2000000 in
theorem again_any (L : List UInt8) (N rb wb : Nat) (w wr : World) (R : List UInt8) (o : OpD) (ho : OpOk o) (h : Ag L N rb wb w wr 0 R) :
    Calls Tryd.prog 29 #[.pointer (some ⟨rb, 0, none⟩), .pointer (some ⟨wb, 0, none⟩), .agg #[.int .i64 o.kind, .int .i64 o.on, .int .i64 o.size, .int .i64 o.n, .string o.s]] wr fun e w' =>
      e = .returned (.tuple #[]) ∧ ∃ E' R', Ag L N rb wb w w' E' R' := by
  obtain ⟨kind, on, size, n, s⟩ := o
  obtain ⟨o1, o2, o3, o4, o5⟩ := ho
  simp only at o1 o2 o3 o4 o5 ⊢
  have HP := hide h
  obtain ⟨F, S, w1, w2, w3, w4⟩ := h.wt rfl
  have HW := hide w1; have HF0 := hide w2; have HF := hide w3; have HL := hide w4
  have hll := h.len
  have hSl : S.length + R.length ≤ 140737488351232 := by have := congrArg List.length w4; rw [List.length_append] at this; omega
  have hRl : R.length ≤ 140737488351232 := Nat.le_trans h.rlen h.len
  have hrb : Hid (rb < wr.heap.size) := h.rd.lt
  clear h w1 w2 w3 w4
  by_cases k1 : kind = 1
  · subst k1
    have hV63 : ((rNum 0 R size).1 : Int) ≤ 9223372036854775807 := by
      simp only [rNum, rnumV]
      split
      · split
        · rename_i h
          unfold rnumC at h
          split at h
          · cases h
          · split at h
            · cases h
            · split at h
              · cases h
              · omega
        · omega
      · omega
    obtain ⟨V, hV⟩ : ∃ V, V = (rNum 0 R size).1 := ⟨_, rfl⟩
    have HV := hide hV
    rw [← hV] at hV63
    clear hV
    have HN0 : Hid (¬ F wr.heap.size) := fun h => Nat.lt_irrefl _ (HF.out _ h).2
    go_enter Tryd.func29, Tryd.ntmps29
    go_wp2
    go_region_held3 (fun w' => w'.cell? ⟨wr.heap.size, 2, none⟩ = some (.int .i64 size)) (first | assumption | (simp [go_sem, *]; done))
      (first | (go_at_call 30; refine (rNum_any _ rb 0 R size (by omega) (HP.out.rd.below (((Below.refl _ _).alloc (Nat.le_refl _) _).drew))).mono ?_; rintro e wx ⟨rfl, x1, y1⟩; have g1 : wx.cell? ⟨wr.heap.size, 2, none⟩ = some (.int .i64 size) := (by rw [y1.cell (p := ⟨wr.heap.size, 2, none⟩) (by simp) (Nat.ne_of_gt hrb.out)]; simp); have X1 := hide x1; have Y1 := hide y1; clear x1 y1; rw [← HV.out]) | (go_at_call 32; refine (wNum_any F _ wb L.length 0 S size V hV63 (by omega) (by omega) ((HW.out.below (((Below.refl _ _).alloc (Nat.le_refl _) _).drew)).kept Y1.out (fun k hk hk2 => HF0.out (hk2 ▸ hk)))).mono ?_; rintro e wy ⟨rfl, x2, y2⟩; have g2 : wy.cell? ⟨wr.heap.size, 2, none⟩ = some (.int .i64 size) := (by rw [y2.cell (p := ⟨wr.heap.size, 2, none⟩) (Nat.lt_of_lt_of_le (by simp) Y1.out.size) HN0.out]; exact g1); have X2 := hide x2; have Y2 := hide y2; clear x2 y2))
    clear g1 g2
    go_wp2
    go_end0
    exact ⟨rfl, _, _, ag_step HP.out HF0.out HF.out HL.out (((Below.refl _ _).alloc (Nat.le_refl _) _).drew) X1.out Y1.out X2.out Y2.out (rnumC_code R size) (fun hc => by rw [HV.out]; exact num_back R size hc)⟩
  have b1 : (kind == 1) = false := by simpa using k1
  by_cases k2 : kind = 2
  · subst k2
    have hTl : (rText 0 R n).1.length ≤ R.length := by
      simp only [rText]
      split
      · exact rtextS_length R n
      · simp
    have htsz : (str (rText 0 R n).1).size ≤ R.length := by rw [str_size]; exact hTl
    have HT : Hid ((str (rText 0 R n).1).data.toList = (rText 0 R n).1) := str_toList _
    clear hTl
    go_enter Tryd.func29, Tryd.ntmps29
    go_wp2_with fail
    refine (rText_any _ rb 0 R n (by omega) (HP.out.rd.below ((Below.refl _ _).alloc (Nat.le_refl _) _))).mono ?_
    rintro e wx ⟨rfl, x1, y1⟩
    have X1 := hide x1; have Y1 := hide y1
    clear x1 y1
    go_wp2_with fail
    refine (wText_any F _ wb L.length 0 S (str (rText 0 R n).1) (by omega) (by omega) ((HW.out.below ((Below.refl _ _).alloc (Nat.le_refl _) _)).kept Y1.out (fun k hk hk2 => HF0.out (hk2 ▸ hk)))).mono ?_
    rintro e wy ⟨rfl, x2, y2⟩
    rw [HT.out] at x2
    have X2 := hide x2; have Y2 := hide y2
    clear x2 y2
    go_wp2
    go_end0
    exact ⟨rfl, _, _, ag_step HP.out HF0.out HF.out HL.out ((Below.refl _ _).alloc (Nat.le_refl _) _) X1.out Y1.out X2.out Y2.out (rtextC_code R n) (fun hc => text_back R n hc)⟩
  have b2 : (kind == 2) = false := by simpa using k2
  have hTl : (rRaw 0 R n).1.length ≤ R.length := by
    simp only [rRaw]
    split
    · unfold rawS
      split
      · simp
      · split
        · simp
        · rw [List.length_take]; omega
    · simp
  have htsz : (str (rRaw 0 R n).1).size ≤ R.length := by rw [str_size]; exact hTl
  have HT : Hid ((str (rRaw 0 R n).1).data.toList = (rRaw 0 R n).1) := str_toList _
  clear hTl k1 k2
  go_enter Tryd.func29, Tryd.ntmps29
  go_wp2_with fail
  refine (rRaw_any _ rb 0 R n (by omega) (HP.out.rd.below ((Below.refl _ _).alloc (Nat.le_refl _) _))).mono ?_
  rintro e wx ⟨rfl, x1, y1⟩
  have X1 := hide x1; have Y1 := hide y1
  clear x1 y1
  go_wp2_with fail
  refine (wRaw_any F _ wb L.length 0 S (str (rRaw 0 R n).1) (by omega) (by omega) ((HW.out.below ((Below.refl _ _).alloc (Nat.le_refl _) _)).kept Y1.out (fun k hk hk2 => HF0.out (hk2 ▸ hk)))).mono ?_
  rintro e wy ⟨rfl, x2, y2⟩
  rw [HT.out] at x2
  have X2 := hide x2; have Y2 := hide y2
  clear x2 y2
  go_wp2
  go_end0
  exact ⟨rfl, _, _, ag_step HP.out HF0.out HF.out HL.out ((Below.refl _ _).alloc (Nat.le_refl _) _) X1.out Y1.out X2.out Y2.out (rawC_code R n) (fun hc => ⟨rfl, raw_back R n hc⟩)⟩
end Go.Proofs.YtonoobjpafhogaaDoor
