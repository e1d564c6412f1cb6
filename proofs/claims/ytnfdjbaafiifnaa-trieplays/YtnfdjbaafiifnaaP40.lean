/-
  The document's Map by its contract. Condition: labels are labels.
-/
import Derived.Test.YtnfdjbaafiifnaaP39
import Derived.Test.YtnfdjbaafiifnaaP19
namespace Go.Proofs.Ytnfdjbaafiifnaa
open Go.RowKit Go.Lib

section
variable {g : Nat → Int} {m : Nat} {C : List Ct}
theorem mp_step (h : Cz g m C) (f : Int → Int) {i : Nat} (hi : i < C.length) : withL (cuts (fun n => f (g n)) (nxt C m i).toNat) (C[i].1, f C[i].2) = cuts (fun n => f (g n)) (nxt C m (i + 1)).toNat := by
  have hc : C[i]? = some C[i] := List.getElem?_eq_getElem hi
  obtain ⟨p1, p2⟩ := h.pos i _ hc
  have hr := h.rise i _ hc
  obtain ⟨q1, q2⟩ := h.le_m (i + 1)
  rw [withL_wiL, nxt_some hc, cuts_to (fun n => f (g n)) (l := f C[i].2) (m := C[i].1.toNat) (m' := (nxt C m (i + 1)).toNat) (by omega) (fun n h1 h2 => by
    show f (g n) = f C[i].2
    rw [h.seg i _ hc n (by omega) (by omega)])]
  congr 1
  exact Prod.ext (by show C[i].1 = ((C[i].1.toNat : Nat) : Int); omega) rfl
theorem mp_all (h : Cz g m C) (hp : ∃ h : 0 < C.length, C[0].1 = 0) (p : Int → Prop) : (∀ i (hi : i < C.length), p C[i].2) ↔ ∀ n, n < m → p (g n) := by
  constructor
  · intro hh n hn
    obtain ⟨hp1, hp2⟩ := hp
    obtain ⟨i, hi⟩ := ofI_ex (C := C) (n := (n : Int)) ⟨hp1, by rw [hp2]; omega⟩
    obtain ⟨c, hc, hc1, hc2⟩ := hi.get
    obtain ⟨hil, hce⟩ := List.getElem?_eq_some_iff.1 hc
    have := hh i hil
    rw [hce] at this
    rw [h.seg i c hc n hc1 (hc2 m (by omega))]
    exact this
  · intro hh i hi
    have hc : C[i]? = some C[i] := List.getElem?_eq_getElem hi
    obtain ⟨p1, p2⟩ := h.pos i _ hc
    have := hh C[i].1.toNat (by omega)
    rw [h.seg i _ hc C[i].1.toNat (by omega) (by have := h.rise i _ hc; omega)] at this
    exact this
end
/-- What Map does. -/
def MpD (w : World) (b : Nat) (g : Nat → Int) (L : List Int) (e : Ending) (w' : World) : Prop :=
  ((∀ n, n < 4294967296 → trOk L (g n)) → e = .returned (.int .i64 0) ∧ DtAt w' b (fun n => tr L (g n)) ∧ Kept (fun j => j = b) w w') ∧
  (¬ (∀ n, n < 4294967296 → trOk L (g n)) → e = .returned (.int .i64 1) ∧ Below w.heap.size w w')
structure McS (w : World) (wr : World) (v : Value) (L : List Ct) : Prop where
  own : OwnC wr w.heap.size v L
  bel : Below w.heap.size w wr
theorem McS.with {w wr : World} {v : Value} {L : List Ct} (h : McS w wr v L) (c : Ct) (hl : L.length ≤ 8589934592) :
    Calls Try.prog 47 #[v, .agg #[.int .i64 c.1, .int .i64 c.2]] wr fun e w' => ∃ v', e = .returned v' ∧ McS w w' v' (withL L c) := by
  refine (with_any v L c.1 c.2 w.heap.size wr h.bel.size hl h.own).mono ?_
  rintro e w' ⟨⟨v', rfl, ho⟩, hb, _⟩
  exact ⟨v', rfl, ho, h.bel.trans hb⟩
set_option maxHeartbeats 2000000 in
set_option maxRecDepth 100000 in
theorem mapD_any {w : World} {b lcap : Nat} {lo : Option Addr} {g : Nat → Int} (L : List Int) (hLn : L.length ≤ 140737488351232) (hlab : ∀ n, n < 4294967296 → Lab (g n)) (hzt : ZAt w lo L) (h : DtAt w b g) :
    Calls Try.prog 51 #[.pointer (some ⟨b, 0, none⟩), .slice lo L.length lcap] w fun e w' => MpD w b g L e w' := by
  obtain ⟨v0, base, m, hm, hb, hC⟩ := h
  have hl := cuts_len g m
  have hz := cuts_z g m
  obtain ⟨hpos, hC0⟩ := cuts_zero (g := g) (m := m) (by omega)
  have HALL := hide (mp_all hz ⟨hpos, hC0⟩ (trOk L))
  have HLB : Hid (∀ i (hi : i < (cuts g m).length), Lab (cuts g m)[i].2) := (mp_all hz ⟨hpos, hC0⟩ Lab).2 (fun n hn => hlab n (by omega))
  rw [hm] at HALL
  rw [← hm] at HALL
  obtain ⟨ao, cap, e1, hgo⟩ := own_shape hC
  obtain ⟨gr, e2⟩ := hgo hpos
  subst e1 e2
  have HRD : Hid (∀ V, Below w.heap.size w V → V.cell? ⟨b, 0, none⟩ = some (.slice (some ⟨gr, 0, none⟩) (cuts g m).length cap) ∧ b < V.heap.size ∧ ∀ i (hi : i < (cuts g m).length), V.cell? ⟨gr, i * 2, none⟩ = some (.int .i64 (cuts g m)[i].1) ∧ V.cell? ⟨gr, i * 2 + 1, none⟩ = some (.int .i64 (cuts g m)[i].2)) := fun V y => by
    have hb' := (y.block b (lt_of_block hb)).trans hb
    exact ⟨by rw [cell_of_row _ _ _ _ _ _ hb']; rfl, lt_of_block hb', fun i hi => ct_at (own_below hC y) hi⟩
  have HBB := hide hb
  have HZ := hide hz
  have HZT := hide hzt
  have HF0 : Hid (nxt (cuts g m) m 0 = 0) := by unfold Hid; rw [nxt_some (List.getElem?_eq_getElem hpos)]; exact hC0
  have hCl : (cuts g m).length ≤ 4294967296 := by omega
  have HPD1 : Hid ((∀ n, n < m → trOk L (g n)) → ∀ e w', e = .returned (.int .i64 0) → DtAt w' b (fun n => tr L (g n)) → Kept (fun j => j = b) w w' → MpD w b g L e w') := fun hok e w' h1 h2 h3 => ⟨fun _ => ⟨h1, h2, h3⟩, fun h => absurd (fun n hn => hok n (by omega)) h⟩
  have HPD2 : Hid (¬ (∀ n, n < m → trOk L (g n)) → ∀ e w', e = .returned (.int .i64 1) → Below w.heap.size w w' → MpD w b g L e w') := fun hok e w' h1 h2 => ⟨fun h => absurd (fun n hn => h n (by omega)) hok, fun _ => ⟨h1, h2⟩⟩
  have HTK : Hid (∀ l, 0 ≤ l → l < (L.length : Int) → ∃ lb off, lo = some ⟨lb, off, none⟩ ∧ lb < w.heap.size ∧ ∀ V, Below w.heap.size w V → V.cell? ⟨lb, off + l.toNat, none⟩ = some (.int .i64 (tr L l))) := fun l h0 h1 => by
    rcases hzt with rfl | ⟨lb, off, e, hlt, hc⟩
    · simp at h1; omega
    · refine ⟨lb, off, e, hlt, fun V y => ?_⟩
      have := hc l.toNat (by omega)
      unfold tr
      rw [if_pos h1]
      exact (y.cell (p := ⟨lb, _, none⟩) hlt).trans this
  have HM := hide hm
  clear hb hC hgo hC0 hz hl hzt hlab hm
  generalize cuts g m = C at *
  have HLE : Hid (∀ f n, (cuts f n).length ≤ n) := cuts_len
  go_enter Try.func51, Try.ntmps51
  go_upto_block 0 with fail
  go_cut [5, 6] (fun _ _ wx => wx = w ∧ Hid (∀ i (hi : i < C.length), trOk L C[i].2))
  case first =>
    go_wp2
    go_loopg [5] (C.length + 1) (fun gh x wr => ∃ i : Nat, x = .int .i64 (i : Nat) ∧ i ≤ C.length ∧ wr = w ∧ Hid (∀ j (hj : j < C.length), j < i → trOk L C[j].2) ∧ C.length - i < gh)
    case atStart => exact ⟨0, rfl, Nat.zero_le _, rfl, fun j _ h => by omega, by omega⟩
    case round =>
      obtain ⟨i, rfl, hi1, hw, HI, hg⟩ := hrel
      have hw := hw.symm
      subst hw
      have HG := hide hg
      clear hg
      have f1 : IntKind.i64.wrap ((i : Int) + 1) = (i : Int) + 1 := by rw [show (i : Int) + 1 = ((i + 1 : Nat) : Int) by simp]; simp [IntKind.wrap, IntKind.bits, IntKind.signed]; omega
      obtain ⟨r0, rb, rc⟩ := HRD.out w (Below.refl _ _)
      by_cases hi : i < C.length
      · have hi' : (i : Int) < (C.length : Int) := by omega
        obtain ⟨c1, c2⟩ := rc i hi
        obtain ⟨hl0, hl1⟩ := HLB.out i hi
        obtain ⟨cl, hcl⟩ : ∃ cl, cl = C[i].2 := ⟨_, rfl⟩
        rw [← hcl] at c2 hl0 hl1
        have HNO : Hid (¬ trOk L cl → ∀ e w', e = .returned (.int .i64 1) → Below w.heap.size w w' → MpD w b g L e w') := fun hno => HPD2.out (fun hall => by
          have := HALL.out.2 hall i hi
          rw [← hcl] at this
          exact hno this)
        have HYE : Hid (trOk L cl → ∀ j (hj : j < C.length), j < i + 1 → trOk L C[j].2) := fun hy j hj hlt => by
          by_cases h' : j < i
          · exact HI.out j hj h'
          · obtain rfl : j = i := by omega
            rw [← hcl]
            exact hy
        clear hcl rc
        by_cases hge : (L.length : Int) ≤ cl
        · have HN2 := hide (HNO.out (fun h => by have := h.1; omega))
          go_wp2
          go_ret
          exact HN2.out _ _ rfl (Below.refl _ _)
        · have hlt : cl < (L.length : Int) := by omega
          obtain ⟨lb, off, hlo, hlbl, hlc⟩ := HTK.out cl hl0 hlt
          subst hlo
          have c3 := hlc w (Below.refl _ _)
          obtain ⟨N, hN⟩ : ∃ N : Nat, cl = (N : Int) := ⟨cl.toNat, by omega⟩
          have HTR : Hid (trOk L cl ↔ Lab (tr L cl)) := by
            unfold Hid trOk tr
            rw [if_pos hlt]
            exact ⟨fun h => h.2, fun h => ⟨hlt, h⟩⟩
          have HL := hide (refIsLabel_any (tr L cl) w)
          generalize tr L cl = tl at *
          subst hN
          rw [Int.toNat_natCast] at c3
          by_cases hok : Lab tl
          · rw [decide_eq_true hok] at HL
            have HY2 := hide (HYE.out (HTR.out.2 hok))
            clear hlc HTR HNO HYE hok
            go_wp2_with (go_at_call 27; refine HL.out.mono ?_; rintro e wz ⟨rfl, hwz⟩; have hwz := hwz.symm; subst hwz)
            go_roundg (C.length - (i + 1) + 1)
            case measure => have := HG.out; omega
            case rel => exact ⟨i + 1, by first | rfl | go_num | (congr 1; omega), by omega, by first | rfl | trivial, HY2, by omega⟩
          · rw [decide_eq_false hok] at HL
            have HN2 := hide (HNO.out (fun h => hok (HTR.out.1 h)))
            clear hlc HTR HNO HYE hok
            go_wp2_with (go_at_call 27; refine HL.out.mono ?_; rintro e wz ⟨rfl, hwz⟩; have hwz := hwz.symm; subst hwz)
            go_ret
            exact HN2.out _ _ rfl (Below.refl _ _)
      · have hi' : ¬ (i : Int) < (C.length : Int) := by omega
        have HY2 : Hid (∀ j (hj : j < C.length), trOk L C[j].2) := fun j hj => HI.out j hj (by omega)
        clear rc
        go_wp2
        go_meet
        exact ⟨by first | rfl | trivial, HY2⟩
  case rest =>
    obtain ⟨hwx, HOK⟩ := hcut
    subst hwx
    have HP3 := hide (HPD1.out (HALL.out.1 HOK.out))
    clear HPD1 HPD2 HALL
    obtain ⟨G, hG⟩ : ∃ G : Nat → Int, G = fun n => tr L (g n) := ⟨_, rfl⟩
    rw [← hG] at HP3
    have HST : Hid (∀ i (hi : i < C.length), withL (cuts G (nxt C m i).toNat) (C[i].1, tr L C[i].2) = cuts G (nxt C m (i + 1)).toNat) := fun i hi => by rw [hG]; exact mp_step HZ.out (tr L) hi
    clear hG
    have M0 : Hid (McS wc wc (.slice none 0 0) (cuts G (nxt C m 0).toNat)) := by unfold Hid; rw [HF0.out]; exact ⟨World.ownsRow_nil _ _ _ _, Below.refl _ _⟩
    go_wp2
    go_loopg [7, 8] (C.length + 1) (fun gh v x wr => ∃ (i : Nat) (v' : Value), v = v' ∧ x = .int .i64 (i : Nat) ∧ i ≤ C.length ∧ Hid (McS wc wr v' (cuts G (nxt C m i).toNat)) ∧ C.length - i < gh)
    case atStart => exact ⟨0, _, rfl, rfl, Nat.zero_le _, M0, by omega⟩
    case round =>
      clear M0
      obtain ⟨i, v, hv, rfl, hi1, PS, hg⟩ := hrel
      have hv := hv.symm
      subst hv
      have HG := hide hg
      clear hg
      obtain ⟨va6, vc6, e6, _⟩ := own_shape PS.out.own
      have f1 : IntKind.i64.wrap ((i : Int) + 1) = (i : Int) + 1 := by rw [show (i : Int) + 1 = ((i + 1 : Nat) : Int) by simp]; simp [IntKind.wrap, IntKind.bits, IntKind.signed]; omega
      obtain ⟨r0, rb, rc⟩ := HRD.out wr PS.out.bel
      by_cases hi : i < C.length
      · have hi' : (i : Int) < (C.length : Int) := by omega
        obtain ⟨hl0, hl1⟩ := HLB.out i hi
        have hlt := (HOK.out i hi).1
        obtain ⟨lb, off, hlo, hlbl, hlc⟩ := HTK.out C[i].2 hl0 hlt
        subst hlo
        have HQ : Hid (∀ V, Below wr.heap.size wr V → V.cell? ⟨b, 0, none⟩ = some (.slice (some ⟨gr, 0, none⟩) C.length cap) ∧ V.cell? ⟨gr, i * 2, none⟩ = some (.int .i64 C[i].1) ∧ V.cell? ⟨gr, i * 2 + 1, none⟩ = some (.int .i64 C[i].2) ∧ V.cell? ⟨lb, off + C[i].2.toNat, none⟩ = some (.int .i64 (tr L C[i].2))) := fun V y => by
          have y2 := PS.out.bel.trans (y.mono PS.out.bel.size)
          obtain ⟨s0, _, sc⟩ := HRD.out V y2
          exact ⟨s0, (sc i hi).1, (sc i hi).2, hlc V y2⟩
        have HWI := hide (McS.with (w := wc) ⟨own_below PS.out.own (Below.drew (Below.refl wr.heap.size wr)), PS.out.bel.trans ((Below.drew (Below.refl wr.heap.size wr)).mono PS.out.bel.size)⟩ (C[i].1, tr L C[i].2) (by have := HLE.out G (nxt C m i).toNat; have := HZ.out.le_m i; have := HM.out; omega))
        rw [HST.out i hi] at HWI
        clear rc hlc
        obtain ⟨c1, hc1⟩ : ∃ c1, C[i].1 = c1 := ⟨_, rfl⟩
        obtain ⟨N, hN⟩ : ∃ N : Nat, C[i].2 = (N : Int) := ⟨C[i].2.toNat, by omega⟩
        rw [hc1, hN] at HWI HQ
        rw [hN] at hlt
        rw [Int.toNat_natCast] at HQ
        generalize tr L (N : Int) = tl at *
        generalize (cuts G (nxt C m i).toNat).length = n6 at *
        clear hl0 hl1 hc1 hN PS
        subst e6
        go_upto_region 13 with fail
        clear r0 rb
        refine wp_unt (S := fun V => Below wr.heap.size wr V) 21 (by kernel_rfl) ?_
        have HS0 : Hid (Below wr.heap.size wr wr.drew) := (Below.refl _ _).drew
        generalize wr.drew = wd at *
        refine UntH.take (i := 0) (some 52) rfl rfl (by kernel_rfl) (by kernel_rfl) (by kernel_rfl) (by kernel_rfl) (fun _ _ _ _ h => h) (by rfl) HS0.out ?_
        apply Exists.intro
        refine ⟨fun w' hw' => ?_, ?_⟩
        · obtain ⟨q1, q2, q3, q4⟩ := HQ.out w' hw'
          go_simp
          first | done | rfl
        try simp only [Act.put, List.setIfInBounds_toArray, List.set_cons_zero, List.set_cons_succ]
        refine UntH.take (i := 1) (some 53) rfl rfl (by kernel_rfl) (by kernel_rfl) (by kernel_rfl) (by kernel_rfl) (fun _ _ _ _ h => h) (by rfl) HS0.out ?_
        apply Exists.intro
        refine ⟨fun w' hw' => ?_, ?_⟩
        · obtain ⟨q1, q2, q3, q4⟩ := HQ.out w' hw'
          go_simp
          first | done | rfl
        try simp only [Act.put, List.setIfInBounds_toArray, List.set_cons_zero, List.set_cons_succ]
        refine UntH.take (i := 2) (some 54) rfl rfl (by kernel_rfl) (by kernel_rfl) (by kernel_rfl) (by kernel_rfl) (fun _ _ _ _ h => h) (by rfl) HS0.out ?_
        apply Exists.intro
        refine ⟨fun w' hw' => ?_, ?_⟩
        · obtain ⟨q1, q2, q3, q4⟩ := HQ.out w' hw'
          go_simp
          first | done | rfl
        try simp only [Act.put, List.setIfInBounds_toArray, List.set_cons_zero, List.set_cons_succ]
        refine UntH.take (i := 3) (some 55) rfl rfl (by kernel_rfl) (by kernel_rfl) (by kernel_rfl) (by kernel_rfl) (fun _ _ _ _ h => h) (by rfl) HS0.out ?_
        apply Exists.intro
        refine ⟨fun w' hw' => ?_, ?_⟩
        · obtain ⟨q1, q2, q3, q4⟩ := HQ.out w' hw'
          go_simp
          first | done | rfl
        try simp only [Act.put, List.setIfInBounds_toArray, List.set_cons_zero, List.set_cons_succ]
        refine UntH.take (i := 4) (some 56) rfl rfl (by kernel_rfl) (by kernel_rfl) (by kernel_rfl) (by kernel_rfl) (fun _ _ _ _ h => h) (by rfl) HS0.out ?_
        apply Exists.intro
        refine ⟨fun w' hw' => ?_, ?_⟩
        · obtain ⟨q1, q2, q3, q4⟩ := HQ.out w' hw'
          go_simp
          first | done | rfl
        try simp only [Act.put, List.setIfInBounds_toArray, List.set_cons_zero, List.set_cons_succ]
        refine UntH.take (i := 5) (some 57) rfl rfl (by kernel_rfl) (by kernel_rfl) (by kernel_rfl) (by kernel_rfl) (fun _ _ _ _ h => h) (by rfl) HS0.out ?_
        apply Exists.intro
        refine ⟨fun w' hw' => ?_, ?_⟩
        · obtain ⟨q1, q2, q3, q4⟩ := HQ.out w' hw'
          go_simp
          first | done | rfl
        try simp only [Act.put, List.setIfInBounds_toArray, List.set_cons_zero, List.set_cons_succ]
        refine UntH.take (i := 6) (some 58) rfl rfl (by kernel_rfl) (by kernel_rfl) (by kernel_rfl) (by kernel_rfl) (fun _ _ _ _ h => h) (by rfl) HS0.out ?_
        apply Exists.intro
        refine ⟨fun w' hw' => ?_, ?_⟩
        · obtain ⟨q1, q2, q3, q4⟩ := HQ.out w' hw'
          go_simp
          first | done | rfl
        try simp only [Act.put, List.setIfInBounds_toArray, List.set_cons_zero, List.set_cons_succ]
        refine UntH.take (i := 7) (some 59) rfl rfl (by kernel_rfl) (by kernel_rfl) (by kernel_rfl) (by kernel_rfl) (fun _ _ _ _ h => h) (by rfl) HS0.out ?_
        apply Exists.intro
        refine ⟨fun w' hw' => ?_, ?_⟩
        · obtain ⟨q1, q2, q3, q4⟩ := HQ.out w' hw'
          go_simp
          first | done | rfl
        try simp only [Act.put, List.setIfInBounds_toArray, List.set_cons_zero, List.set_cons_succ]
        refine UntH.take (i := 8) (some 60) rfl rfl (by kernel_rfl) (by kernel_rfl) (by kernel_rfl) (by kernel_rfl) (fun _ _ _ _ h => h) (by rfl) HS0.out ?_
        apply Exists.intro
        refine ⟨fun w' hw' => ?_, ?_⟩
        · obtain ⟨q1, q2, q3, q4⟩ := HQ.out w' hw'
          go_simp
          first | done | rfl
        try simp only [Act.put, List.setIfInBounds_toArray, List.set_cons_zero, List.set_cons_succ]
        refine UntH.take (i := 9) (some 61) rfl rfl (by kernel_rfl) (by kernel_rfl) (by kernel_rfl) (by kernel_rfl) (fun _ _ _ _ h => h) (by rfl) HS0.out ?_
        apply Exists.intro
        refine ⟨fun w' hw' => ?_, ?_⟩
        · obtain ⟨q1, q2, q3, q4⟩ := HQ.out w' hw'
          go_simp
          first | done | rfl
        try simp only [Act.put, List.setIfInBounds_toArray, List.set_cons_zero, List.set_cons_succ]
        refine UntH.take (i := 10) (some 62) rfl rfl (by kernel_rfl) (by kernel_rfl) (by kernel_rfl) (by kernel_rfl) (fun _ _ _ _ h => h) (by rfl) HS0.out ?_
        apply Exists.intro
        refine ⟨fun w' hw' => ?_, ?_⟩
        · obtain ⟨q1, q2, q3, q4⟩ := HQ.out w' hw'
          go_simp
          first | done | rfl
        try simp only [Act.put, List.setIfInBounds_toArray, List.set_cons_zero, List.set_cons_succ]
        refine UntH.take (i := 11) (some 63) rfl rfl (by kernel_rfl) (by kernel_rfl) (by kernel_rfl) (by kernel_rfl) (fun _ _ _ _ h => h) (by rfl) HS0.out ?_
        apply Exists.intro
        refine ⟨fun w' hw' => ?_, ?_⟩
        · obtain ⟨q1, q2, q3, q4⟩ := HQ.out w' hw'
          go_simp
          first | done | rfl
        try simp only [Act.put, List.setIfInBounds_toArray, List.set_cons_zero, List.set_cons_succ]
        refine UntH.take (i := 12) (some 64) rfl rfl (by kernel_rfl) (by kernel_rfl) (by kernel_rfl) (by kernel_rfl) (fun _ _ _ _ h => h) (by rfl) HS0.out ?_
        apply Exists.intro
        refine ⟨fun w' hw' => ?_, ?_⟩
        · obtain ⟨q1, q2, q3, q4⟩ := HQ.out w' hw'
          go_simp
          first | done | rfl
        try simp only [Act.put, List.setIfInBounds_toArray, List.set_cons_zero, List.set_cons_succ]
        refine UntH.take (i := 13) (some 65) rfl rfl (by kernel_rfl) (by kernel_rfl) (by kernel_rfl) (by kernel_rfl) (fun _ _ _ _ h => h) (by rfl) HS0.out ?_
        apply Exists.intro
        refine ⟨fun w' hw' => ?_, ?_⟩
        · obtain ⟨q1, q2, q3, q4⟩ := HQ.out w' hw'
          go_simp
          first | done | rfl
        try simp only [Act.put, List.setIfInBounds_toArray, List.set_cons_zero, List.set_cons_succ]
        refine UntH.take (i := 14) (some 66) rfl rfl (by kernel_rfl) (by kernel_rfl) (by kernel_rfl) (by kernel_rfl) (fun _ _ _ _ h => h) (by rfl) HS0.out ?_
        apply Exists.intro
        refine ⟨fun w' hw' => ?_, ?_⟩
        · obtain ⟨q1, q2, q3, q4⟩ := HQ.out w' hw'
          go_simp
          first | done | rfl
        try simp only [Act.put, List.setIfInBounds_toArray, List.set_cons_zero, List.set_cons_succ]
        refine UntH.take (i := 15) (some 67) rfl rfl (by kernel_rfl) (by kernel_rfl) (by kernel_rfl) (by kernel_rfl) (fun _ _ _ _ h => h) (by rfl) HS0.out ?_
        apply Exists.intro
        refine ⟨fun w' hw' => ?_, ?_⟩
        · obtain ⟨q1, q2, q3, q4⟩ := HQ.out w' hw'
          go_simp
          first | done | rfl
        try simp only [Act.put, List.setIfInBounds_toArray, List.set_cons_zero, List.set_cons_succ]
        refine UntH.take (i := 16) (some 68) rfl rfl (by kernel_rfl) (by kernel_rfl) (by kernel_rfl) (by kernel_rfl) (fun _ _ _ _ h => h) (by rfl) HS0.out ?_
        apply Exists.intro
        refine ⟨fun w' hw' => ?_, ?_⟩
        · obtain ⟨q1, q2, q3, q4⟩ := HQ.out w' hw'
          go_simp
          first | done | rfl
        try simp only [Act.put, List.setIfInBounds_toArray, List.set_cons_zero, List.set_cons_succ]
        refine UntH.take (i := 17) (some 69) rfl rfl (by kernel_rfl) (by kernel_rfl) (by kernel_rfl) (by kernel_rfl) (fun _ _ _ _ h => h) (by rfl) HS0.out ?_
        apply Exists.intro
        refine ⟨fun w' hw' => ?_, ?_⟩
        · obtain ⟨q1, q2, q3, q4⟩ := HQ.out w' hw'
          go_simp
          first | done | rfl
        try simp only [Act.put, List.setIfInBounds_toArray, List.set_cons_zero, List.set_cons_succ]
        refine UntH.take (i := 18) (some 70) rfl rfl (by kernel_rfl) (by kernel_rfl) (by kernel_rfl) (by kernel_rfl) (fun _ _ _ _ h => h) (by rfl) HS0.out ?_
        apply Exists.intro
        refine ⟨fun w' hw' => ?_, ?_⟩
        · obtain ⟨q1, q2, q3, q4⟩ := HQ.out w' hw'
          go_simp
          first | done | rfl
        try simp only [Act.put, List.setIfInBounds_toArray, List.set_cons_zero, List.set_cons_succ]
        refine UntH.take (i := 19) (some 71) rfl rfl (by kernel_rfl) (by kernel_rfl) (by kernel_rfl) (by kernel_rfl) (fun _ _ _ _ h => h) (by rfl) HS0.out ?_
        apply Exists.intro
        refine ⟨fun w' hw' => ?_, ?_⟩
        · obtain ⟨q1, q2, q3, q4⟩ := HQ.out w' hw'
          go_simp
          first | done | rfl
        try simp only [Act.put, List.setIfInBounds_toArray, List.set_cons_zero, List.set_cons_succ]
        refine UntH.take (i := 20) (some 72) rfl rfl (by kernel_rfl) (by kernel_rfl) (by kernel_rfl) (by kernel_rfl) (fun _ _ _ _ h => h) (by rfl) HS0.out ?_
        apply Exists.intro
        refine ⟨fun w' hw' => ?_, ?_⟩
        · obtain ⟨q1, q2, q3, q4⟩ := HQ.out w' hw'
          go_simp
          first | done | rfl
        try simp only [Act.put, List.setIfInBounds_toArray, List.set_cons_zero, List.set_cons_succ]
        refine UntH.stepf (i := 21) (by kernel_rfl) rfl (by kernel_rfl) (fun K' hK => ?_)
        go_simp
        refine HWI.out.mono ?_
        rintro e w6 ⟨v6, rfl, ps⟩
        have PS6 := hide ps
        clear ps
        refine hK _ _ ?_
        clear hK K'
        refine UntH.stepf (i := 22) (by kernel_rfl) rfl (by kernel_rfl) (fun K' hK => ?_)
        go_simp
        refine hK _ _ ?_
        clear hK K'
        refine UntH.end (by kernel_rfl) ?_
        go_wp2
        go_roundg (C.length - (i + 1) + 1)
        case measure => have := HG.out; omega
        case rel => exact ⟨i + 1, _, rfl, by first | rfl | go_num | (congr 1; omega), by omega, PS6, by omega⟩
      · have hi' : ¬ (i : Int) < (C.length : Int) := by omega
        obtain rfl : i = C.length := by omega
        have hst : (nxt C m C.length).toNat = m := by rw [nxt_none (Nat.le_refl _)]; omega
        rw [hst] at PS e6
        have HBR := hide ((PS.out.bel.block b (lt_of_block HBB.out)).trans HBB.out)
        have fz := frozen_of_row _ _ 0 _ _ HBR.out
        have K9 := block_setCell4 HBR.out v
        have HOB : Hid (∀ j, v.ownBlock = some j → ¬ j = b) := fun j hj e => by
          obtain ⟨cs, hc⟩ := own_ty PS.out.own j hj
          rw [e, HBR.out] at hc
          injection hc with hc
          injection hc with _ hc _
          cases hc
        have HDT : Hid (DtAt (wr.setCell ⟨b, 0, none⟩ v) b G) := ⟨v, wc.heap.size, m, HM.out, K9, own_kept PS.out.own ((Kept.refl (fun j => j = b) wr).setCell (p := ⟨b, 0, none⟩) rfl v) (fun j hj e => HOB.out j hj e)⟩
        have HKP : Hid (Kept (fun j => j = b) wc (wr.setCell ⟨b, 0, none⟩ v)) := Kept.setCell (F := fun j => j = b) (Kept.of_below PS.out.bel) (p := ⟨b, 0, none⟩) rfl v
        clear K9 hst rc PS HOB
        generalize (cuts G m).length = n6 at *
        subst e6
        go_wp2
        go_ret
        exact HP3.out _ _ rfl HDT.out HKP.out
end Go.Proofs.Ytnfdjbaafiifnaa
