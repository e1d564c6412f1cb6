/-
  Print by its contract. Condition: lists are no longer than a process can hold.
-/
import Derived.Test.YthgikaklcglpiaaGreatDoorP20
import Derived.Test.YthgikaklcglpiaaGreatDoorP21
import Derived.Deep.RegionWith
namespace Go.Proofs.YthgikaklcglpiaaGreatDoor.L5
open Go.RowKit Go.Lib

theorem rp_kinds {p : Pc} (h : Rp p) : p.kind = 1 ∨ p.kind = 2 ∨ p.kind = 3 ∨ p.kind = 4 ∨ p.kind = 5 := by
  rcases h with h | h | h
  · exact .inl h.1
  · rcases h.1 with h | h | h
    · exact .inr (.inl h)
    · exact .inr (.inr (.inr (.inl h)))
    · exact .inr (.inr (.inr (.inr h)))
  · exact .inr (.inr (.inl h.1))
/-- A piece's text. -/
def pcT (p : Pc) : By := if p.kind = 1 then escL p.b [42, 63, 91, 92] else if p.kind = 2 then [63] else if p.kind = 3 then stT p.no p.set else if p.kind = 4 then [42] else [42, 42]
def prT (L : List Pc) : By := L.flatMap pcT
def prts : Array Value := #[.nilFunc, .func (.func 289) #[] #[], .func (.func 291) #[] #[], .func (.func 292) #[] #[], .func (.func 293) #[] #[], .func (.func 294) #[] #[]]
set_option maxRecDepth 100000 in
theorem printers_any (w : World) : Calls Tryz.prog 246 #[] w fun e w' => e = .returned (.slice (some ⟨w.heap.size, 0, none⟩) 6 6) ∧ w' = w.alloc (.cells prts 259) := by
  go_enter Tryz.func246, Tryz.ntmps246
  go_wp2
  go_ret
  exact ⟨rfl, rfl⟩
set_option maxRecDepth 100000 in
theorem pt1_any (kd kb : Int) (kn : Bool) (ks : Option Addr) (kl kc : Nat) (w : World) (h0 : 32 ≤ kb) (h1 : kb ≤ 126) : Calls Tryz.prog 289 #[.agg #[.int .i64 kd, .int .i64 kb, .bool kn, .slice ks kl kc]] w fun e w' => e = .returned (.string ⟨(escL kb [42, 63, 91, 92]).toArray⟩) ∧ Below w.heap.size w w' := by
  have HE := hide (fun W => escaped_any kb [42, 63, 91, 92] W h0 h1)
  have X0 : Hid (Below w.heap.size w (w.alloc (.cells #[.int .i64 kd, .int .i64 kb, .bool kn, .slice ks kl kc] 83))) := al (Below.refl _ _) _
  generalize escL kb [42, 63, 91, 92] = q at *
  go_enter Tryz.func289, Tryz.ntmps289
  go_wp2_with (fail)
  refine (HE.out _).mono ?_
  rintro e w2 ⟨rfl, x2⟩
  have X2 := hide (bt X0.out x2 (Nat.le_refl _))
  clear x2
  go_wp2
  go_ret
  exact ⟨rfl, X2.out⟩
set_option maxRecDepth 100000 in
theorem pt2_any (kd kb : Int) (kn : Bool) (ks : Option Addr) (kl kc : Nat) (w : World) : Calls Tryz.prog 291 #[.agg #[.int .i64 kd, .int .i64 kb, .bool kn, .slice ks kl kc]] w fun e w' => e = .returned (.string ⟨#[63]⟩) ∧ Below w.heap.size w w' := by
  go_enter Tryz.func291, Tryz.ntmps291
  go_wp2
  go_ret
  exact ⟨rfl, al (Below.refl _ _) _⟩
set_option maxRecDepth 100000 in
theorem pt4_any (kd kb : Int) (kn : Bool) (ks : Option Addr) (kl kc : Nat) (w : World) : Calls Tryz.prog 293 #[.agg #[.int .i64 kd, .int .i64 kb, .bool kn, .slice ks kl kc]] w fun e w' => e = .returned (.string ⟨#[42]⟩) ∧ Below w.heap.size w w' := by
  go_enter Tryz.func293, Tryz.ntmps293
  go_wp2
  go_ret
  exact ⟨rfl, al (Below.refl _ _) _⟩
set_option maxRecDepth 100000 in
theorem pt5_any (kd kb : Int) (kn : Bool) (ks : Option Addr) (kl kc : Nat) (w : World) : Calls Tryz.prog 294 #[.agg #[.int .i64 kd, .int .i64 kb, .bool kn, .slice ks kl kc]] w fun e w' => e = .returned (.string ⟨#[42, 42]⟩) ∧ Below w.heap.size w w' := by
  go_enter Tryz.func294, Tryz.ntmps294
  go_wp2
  go_ret
  exact ⟨rfl, al (Below.refl _ _) _⟩
theorem stT_len (no : Bool) (L : List Spn) : (stT no L).length ≤ 5 * L.length + 3 := by
  have := flat_len L
  unfold stT
  cases no <;> simp only [List.length_append, List.length_cons, List.length_nil, if_true, Bool.false_eq_true, if_false] <;> omega
theorem pcT_len {p : Pc} (h : p.set.length ≤ 4294967296) : (pcT p).length ≤ 21474836500 := by
  have h1 := escL_len p.b [42, 63, 91, 92]
  have h2 := stT_len p.no p.set
  unfold pcT
  split
  · omega
  · split
    · decide
    · split
      · omega
      · split <;> decide
/-- What stands while pieces are printed. -/
structure PrS (w : World) (pb b : Nat) (l : By) (W : World) : Prop where
  bld : Bld b b l W
  prt : W.heap[pb]? = some (.cells prts 259 (0, 0))
  bel : Below w.heap.size w W
  lt : pb < b
  le : w.heap.size ≤ pb
  siz : b ≤ W.heap.size
theorem PrS.wr {w : World} {pb b : Nat} {l q : By} {W W' : World} (h : PrS w pb b l W) (h1 : Bld b b (l ++ q) W') (x : Below b W W') : PrS w pb b (l ++ q) W' :=
  ⟨h1, (x.block _ h.lt).trans h.prt, h.bel.trans (x.mono (Nat.le_trans h.le (Nat.le_of_lt h.lt))), h.lt, h.le, Nat.le_trans h.siz x.size⟩
theorem PrS.next {w : World} {pb b : Nat} {l : By} {W W' : World} (h : PrS w pb b l W) (x : Below W.heap.size W W') : PrS w pb b l W' :=
  ⟨h.bld.below x, (x.block _ (lt_of_block h.prt)).trans h.prt, bt h.bel x (Nat.le_refl _), h.lt, h.le, Nat.le_trans h.siz x.size⟩
/-- What Print tells. -/
def PrIs (L : List Pc) (e : Ending) : Prop := (Rt L ∧ e = .returned (.tuple #[.string ⟨(prT L).toArray⟩, .int .i64 0])) ∨ (¬ Rt L ∧ e = .returned (.tuple #[.string ⟨#[]⟩, .int .i64 1]))
theorem prT_len {D : List PD} (h : ∀ d ∈ D, d.p.set.length ≤ 4294967296) (k : Nat) : ((D.take k).flatMap fun d => pcT d.p).length ≤ 21474836500 * k := by
  induction k with
  | zero => simp
  | succ k ih =>
    by_cases hk : k < D.length
    · rw [List.take_succ_eq_append_getElem hk, List.flatMap_append, List.length_append, List.flatMap_singleton]
      have := pcT_len (h _ (List.getElem_mem hk))
      omega
    · rw [List.take_of_length_le (by omega)]
      rw [List.take_of_length_le (by omega)] at ih
      omega
theorem prT_map (D : List PD) : (D.flatMap fun d => pcT d.p) = prT (D.map PD.p) := by simp [prT, List.flatMap_map]
set_option maxRecDepth 100000 in
set_option maxHeartbeats 8000000 in
theorem print_any (ao : Option Addr) (cap : Nat) (D : List PD) (w : World) (hLen : ∀ d ∈ D, d.p.set.length ≤ 4294967296) (hat : PcAt w ao D) :
    Calls Tryz.prog 186 #[.slice ao D.length cap] w fun e w' => PrIs (D.map PD.p) e ∧ Below w.heap.size w w' := by
  have HR := hide (rightL_any ao cap D w (fun d hd => by have := hLen d hd; omega) hat)
  have HAT := hide hat
  have HLEN := hide hLen
  clear hat hLen
  go_enter Tryz.func186, Tryz.ntmps186
  go_wp2_with (fail)
  refine HR.out.mono ?_
  rintro e w1 ⟨h1, x1⟩
  have X1 := hide x1
  clear x1
  rcases h1 with ⟨hp, rfl⟩ | ⟨hp, rfl⟩
  · have HRT := hide hp
    have hl : D.length ≤ 64 := by simpa using hp.1
    clear hp
    go_wp2_with (fail)
    refine (printers_any w1).mono ?_
    rintro e w2 ⟨rfl, hw2⟩
    have B2 : Hid (w2.heap[w1.heap.size]? = some (.cells prts 259 (0, 0))) := by unfold Hid; rw [hw2]; exact heap_alloc_new _ _
    have X2 : Hid (Below w.heap.size w w2) := by unfold Hid; rw [hw2]; exact al X1.out _
    clear hw2
    have S0 : Hid (PrS w w1.heap.size w2.heap.size ((D.take 0).flatMap fun d => pcT d.p) (w2.alloc (.cells #[.pointer none, .slice none 0 0] 209))) :=
      ⟨bld_new w2, ((al (Below.refl _ _) _ : Below w2.heap.size w2 (w2.alloc (.cells #[.pointer none, .slice none 0 0] 209))).block _ (lt_of_block B2.out)).trans B2.out, al X2.out _, lt_of_block B2.out, X1.out.size, by simp⟩
    have HWR := hide (fun W l q (S : PrS w w1.heap.size w2.heap.size l W) hq => wrs_any w2.heap.size w2.heap.size l q W S.bld hq S.siz)
    go_wp2
    go_loopw [14] (fun x wr => ∃ k : Nat, k ≤ D.length ∧ x = .int .i64 k ∧ Hid (PrS w w1.heap.size w2.heap.size ((D.take k).flatMap fun d => pcT d.p) wr)) (fun x _ => D.length - (RowKit.intOf x).toNat)
    case atStart => exact ⟨0, Nat.zero_le _, rfl, S0⟩
    case round =>
      obtain ⟨k, hk, rfl, S⟩ := hrel
      rename World => wr
      by_cases hlt : k < D.length
      · have hlt' : (k : Int) < (D.length : Int) := by omega
        have X := hide S.out.bel
        rcases HAT.out with h | ⟨pb, off, rfl, hb, hc⟩
        · rw [h] at hlt; simp at hlt
        obtain ⟨p0, p1, p2, p3, p4⟩ := hc k hlt
        have hbw : pb < wr.heap.size := Nat.lt_of_lt_of_le hb X.out.size
        have r0 := (X.out.cell (p := ⟨pb, off + k * 4, none⟩) hb).trans p0
        have r1 := (X.out.cell (p := ⟨pb, off + k * 4 + 1, none⟩) hb).trans p1
        have r2 := (X.out.cell (p := ⟨pb, off + k * 4 + 2, none⟩) hb).trans p2
        have r3 := (X.out.cell (p := ⟨pb, off + k * 4 + 3, none⟩) hb).trans p3
        have P4 := hide (p4.below X.out)
        have HRP := hide (HRT.out.2.1 _ (List.mem_map.2 ⟨_, List.getElem_mem hlt, rfl⟩))
        have HPL := hide (HLEN.out _ (List.getElem_mem hlt))
        have HTK : Hid (((D.take (k + 1)).flatMap fun d => pcT d.p) = ((D.take k).flatMap fun d => pcT d.p) ++ pcT D[k].p) := by unfold Hid; rw [List.take_succ_eq_append_getElem hlt, List.flatMap_append, List.flatMap_singleton]
        have HPN := hide (prT_len HLEN.out k)
        obtain ⟨l, hll⟩ : ∃ l, Hid (l = ((D.take k).flatMap fun d => pcT d.p)) := ⟨_, rfl⟩
        rw [← hll.out] at S HTK HPN
        generalize D[k] = d at *
        obtain ⟨⟨kd, kb, kn, kS⟩, ks, kc⟩ := d
        simp only at r0 r1 r2 r3 P4 HRP HPL HTK
        clear hc p0 p1 p2 p3 p4
        have X4 := hide (al (Below.refl wr.heap.size wr) (.cells #[.int .i64 kd, .int .i64 kb, .bool kn, .slice ks kS.length kc] 83))
        have B4 := hide (heap_alloc_new wr (.cells #[.int .i64 kd, .int .i64 kb, .bool kn, .slice ks kS.length kc] 83))
        obtain ⟨q0, q1, q2, q3⟩ := cells4 B4.out
        have S4 := hide (S.out.next X4.out)
        have HNB : Hid (wr.heap.size ≠ w2.heap.size) := by have := lt_of_block S.out.bld.blk; unfold Hid; omega
        have tc : ∀ j u, prts[j]? = some u → (wr.alloc (.cells #[.int .i64 kd, .int .i64 kb, .bool kn, .slice ks kS.length kc] 83)).cell? ⟨w1.heap.size, j, none⟩ = some u := fun j u hu => by rw [cell_of_row _ _ _ _ _ _ S4.out.prt]; exact hu
        rcases rp_kinds HRP.out with hkd | hkd | hkd | hkd | hkd
        · simp only at hkd
          subst hkd
          have t0 := tc 1 _ rfl
          have HPT : Hid (pcT ⟨1, kb, kn, kS⟩ = escL kb [42, 63, 91, 92]) := by simp [Hid, pcT]
          rw [HPT.out] at HTK
          have hkb : 32 ≤ kb ∧ kb ≤ 126 := by
            have := Rp_one.1 HRP.out
            exact ⟨this.1, this.2.1⟩
          have HKT := hide (fun W (_ : Below wr.heap.size wr W) => pt1_any 1 kb kn ks kS.length kc W hkb.1 hkb.2)
          have HQL : Hid ((escL kb [42, 63, 91, 92]).length ≤ 21474836500) := by unfold Hid; rw [← HPT.out]; exact pcT_len HPL.out
          obtain ⟨q, hq⟩ : ∃ q, Hid (q = escL kb [42, 63, 91, 92]) := ⟨_, rfl⟩
          rw [← hq.out] at HTK HKT HQL
          clear tc HPT
          go_wp2
          clear r0 r1 r2 r3
          generalize wr.alloc (.cells #[.int .i64 1, .int .i64 kb, .bool kn, .slice ks kS.length kc] 83) = W at *
          go_region_held3 (fun w' => w'.cell? ⟨w1.heap.size, 1, none⟩ = some (.func (.func 289) #[] #[]) ∧ w'.cell? ⟨wr.heap.size, 0, none⟩ = some (.int .i64 1) ∧ w'.cell? ⟨wr.heap.size, 1, none⟩ = some (.int .i64 kb) ∧ w'.cell? ⟨wr.heap.size, 2, none⟩ = some (.bool kn) ∧ w'.cell? ⟨wr.heap.size, 3, none⟩ = some (.slice ks kS.length kc)) (first | assumption | exact ⟨t0, q0, q1, q2, q3⟩ | exact ⟨g0, g1, g2, g3, g4⟩ | exact ⟨h0, h1, h2, h3, h4⟩ | (simp [go_sem, *]; done))
            (first
              | (go_at_call 289; refine (HKT.out _ (bt X4.out (Below.refl _ _).drew (Nat.le_refl _))).mono ?_; rintro e w5 ⟨rfl, x5⟩; have y5 : Below W.heap.size W w5 := (Below.refl _ _).drew.trans x5; have S5 := hide (S4.out.next y5); have B5 := hide ((y5.block _ (lt_of_block B4.out)).trans B4.out); obtain ⟨g1, g2, g3, g4⟩ := cells4 B5.out; have g0 : w5.cell? ⟨w1.heap.size, 1, none⟩ = some (.func (.func 289) #[] #[]) := (by rw [cell_of_row _ _ _ _ _ _ S5.out.prt]; rfl); clear x5 y5)
              | (go_at_call 200; refine (HWR.out _ _ q S5.out (by have := HQL.out; have := HPN.out; omega)).mono ?_; rintro e w6 ⟨rfl, b6, x6, k6⟩; have S6 := hide (S5.out.wr b6 x6); have B6 := hide (kept_blk k6 B5.out HNB.out (by decide)); obtain ⟨h1, h2, h3, h4⟩ := cells4 B6.out; have h0 : w6.cell? ⟨w1.heap.size, 1, none⟩ = some (.func (.func 289) #[] #[]) := (by rw [cell_of_row _ _ _ _ _ _ S6.out.prt]; rfl); clear b6 x6 k6))
          go_wp2
          go_roundw
          case rel => exact ⟨k + 1, by omega, by go_num, by unfold Hid; rw [HTK.out]; exact S6.out⟩
          case measure => simp [RowKit.intOf]; omega
        · simp only at hkd
          subst hkd
          have t0 := tc 2 _ rfl
          have HPT : Hid (pcT ⟨2, kb, kn, kS⟩ = ([63] : By)) := by simp [Hid, pcT]
          rw [HPT.out] at HTK
          have HKT := hide (fun W (_ : Below wr.heap.size wr W) => pt2_any 2 kb kn ks kS.length kc W)
          have HQL : Hid ((([63] : By)).length ≤ 21474836500) := by unfold Hid; decide
          clear tc HPT
          go_wp2
          clear r0 r1 r2 r3
          generalize wr.alloc (.cells #[.int .i64 2, .int .i64 kb, .bool kn, .slice ks kS.length kc] 83) = W at *
          go_region_held3 (fun w' => w'.cell? ⟨w1.heap.size, 2, none⟩ = some (.func (.func 291) #[] #[]) ∧ w'.cell? ⟨wr.heap.size, 0, none⟩ = some (.int .i64 2) ∧ w'.cell? ⟨wr.heap.size, 1, none⟩ = some (.int .i64 kb) ∧ w'.cell? ⟨wr.heap.size, 2, none⟩ = some (.bool kn) ∧ w'.cell? ⟨wr.heap.size, 3, none⟩ = some (.slice ks kS.length kc)) (first | assumption | exact ⟨t0, q0, q1, q2, q3⟩ | exact ⟨g0, g1, g2, g3, g4⟩ | exact ⟨h0, h1, h2, h3, h4⟩ | (simp [go_sem, *]; done))
            (first
              | (go_at_call 291; refine (HKT.out _ (bt X4.out (Below.refl _ _).drew (Nat.le_refl _))).mono ?_; rintro e w5 ⟨rfl, x5⟩; have y5 : Below W.heap.size W w5 := (Below.refl _ _).drew.trans x5; have S5 := hide (S4.out.next y5); have B5 := hide ((y5.block _ (lt_of_block B4.out)).trans B4.out); obtain ⟨g1, g2, g3, g4⟩ := cells4 B5.out; have g0 : w5.cell? ⟨w1.heap.size, 2, none⟩ = some (.func (.func 291) #[] #[]) := (by rw [cell_of_row _ _ _ _ _ _ S5.out.prt]; rfl); clear x5 y5)
              | (go_at_call 200; refine (HWR.out _ _ ([63] : By) S5.out (by have := HQL.out; have := HPN.out; omega)).mono ?_; rintro e w6 ⟨rfl, b6, x6, k6⟩; have S6 := hide (S5.out.wr b6 x6); have B6 := hide (kept_blk k6 B5.out HNB.out (by decide)); obtain ⟨h1, h2, h3, h4⟩ := cells4 B6.out; have h0 : w6.cell? ⟨w1.heap.size, 2, none⟩ = some (.func (.func 291) #[] #[]) := (by rw [cell_of_row _ _ _ _ _ _ S6.out.prt]; rfl); clear b6 x6 k6))
          go_wp2
          go_roundw
          case rel => exact ⟨k + 1, by omega, by go_num, by unfold Hid; rw [HTK.out]; exact S6.out⟩
          case measure => simp [RowKit.intOf]; omega
        · simp only at hkd
          subst hkd
          have t0 := tc 3 _ rfl
          have HPT : Hid (pcT ⟨3, kb, kn, kS⟩ = stT kn kS) := by simp [Hid, pcT]
          rw [HPT.out] at HTK
          have HKT := hide (fun W (x : Below wr.heap.size wr W) => setText_any 3 kb kn ks kc kS W HPL.out (fun s hs => by
            have h1 := (Rp_set.1 HRP.out).2
            have h2 := h1.2.2 s hs
            have h3 := h1.1.1 s hs
            unfold Bnd at h3
            exact ⟨h2.1, h3.2.1, h2.2⟩) (P4.out.below x))
          have HQL : Hid ((stT kn kS).length ≤ 21474836500) := by unfold Hid; rw [← HPT.out]; exact pcT_len HPL.out
          obtain ⟨q, hq⟩ : ∃ q, Hid (q = stT kn kS) := ⟨_, rfl⟩
          rw [← hq.out] at HTK HKT HQL
          clear tc HPT
          go_wp2
          clear r0 r1 r2 r3
          generalize wr.alloc (.cells #[.int .i64 3, .int .i64 kb, .bool kn, .slice ks kS.length kc] 83) = W at *
          go_region_held3 (fun w' => w'.cell? ⟨w1.heap.size, 3, none⟩ = some (.func (.func 292) #[] #[]) ∧ w'.cell? ⟨wr.heap.size, 0, none⟩ = some (.int .i64 3) ∧ w'.cell? ⟨wr.heap.size, 1, none⟩ = some (.int .i64 kb) ∧ w'.cell? ⟨wr.heap.size, 2, none⟩ = some (.bool kn) ∧ w'.cell? ⟨wr.heap.size, 3, none⟩ = some (.slice ks kS.length kc)) (first | assumption | exact ⟨t0, q0, q1, q2, q3⟩ | exact ⟨g0, g1, g2, g3, g4⟩ | exact ⟨h0, h1, h2, h3, h4⟩ | (simp [go_sem, *]; done))
            (first
              | (go_at_call 292; refine (HKT.out _ (bt X4.out (Below.refl _ _).drew (Nat.le_refl _))).mono ?_; rintro e w5 ⟨rfl, x5⟩; have y5 : Below W.heap.size W w5 := (Below.refl _ _).drew.trans x5; have S5 := hide (S4.out.next y5); have B5 := hide ((y5.block _ (lt_of_block B4.out)).trans B4.out); obtain ⟨g1, g2, g3, g4⟩ := cells4 B5.out; have g0 : w5.cell? ⟨w1.heap.size, 3, none⟩ = some (.func (.func 292) #[] #[]) := (by rw [cell_of_row _ _ _ _ _ _ S5.out.prt]; rfl); clear x5 y5)
              | (go_at_call 200; refine (HWR.out _ _ q S5.out (by have := HQL.out; have := HPN.out; omega)).mono ?_; rintro e w6 ⟨rfl, b6, x6, k6⟩; have S6 := hide (S5.out.wr b6 x6); have B6 := hide (kept_blk k6 B5.out HNB.out (by decide)); obtain ⟨h1, h2, h3, h4⟩ := cells4 B6.out; have h0 : w6.cell? ⟨w1.heap.size, 3, none⟩ = some (.func (.func 292) #[] #[]) := (by rw [cell_of_row _ _ _ _ _ _ S6.out.prt]; rfl); clear b6 x6 k6))
          go_wp2
          go_roundw
          case rel => exact ⟨k + 1, by omega, by go_num, by unfold Hid; rw [HTK.out]; exact S6.out⟩
          case measure => simp [RowKit.intOf]; omega
        · simp only at hkd
          subst hkd
          have t0 := tc 4 _ rfl
          have HPT : Hid (pcT ⟨4, kb, kn, kS⟩ = ([42] : By)) := by simp [Hid, pcT]
          rw [HPT.out] at HTK
          have HKT := hide (fun W (_ : Below wr.heap.size wr W) => pt4_any 4 kb kn ks kS.length kc W)
          have HQL : Hid ((([42] : By)).length ≤ 21474836500) := by unfold Hid; decide
          clear tc HPT
          go_wp2
          clear r0 r1 r2 r3
          generalize wr.alloc (.cells #[.int .i64 4, .int .i64 kb, .bool kn, .slice ks kS.length kc] 83) = W at *
          go_region_held3 (fun w' => w'.cell? ⟨w1.heap.size, 4, none⟩ = some (.func (.func 293) #[] #[]) ∧ w'.cell? ⟨wr.heap.size, 0, none⟩ = some (.int .i64 4) ∧ w'.cell? ⟨wr.heap.size, 1, none⟩ = some (.int .i64 kb) ∧ w'.cell? ⟨wr.heap.size, 2, none⟩ = some (.bool kn) ∧ w'.cell? ⟨wr.heap.size, 3, none⟩ = some (.slice ks kS.length kc)) (first | assumption | exact ⟨t0, q0, q1, q2, q3⟩ | exact ⟨g0, g1, g2, g3, g4⟩ | exact ⟨h0, h1, h2, h3, h4⟩ | (simp [go_sem, *]; done))
            (first
              | (go_at_call 293; refine (HKT.out _ (bt X4.out (Below.refl _ _).drew (Nat.le_refl _))).mono ?_; rintro e w5 ⟨rfl, x5⟩; have y5 : Below W.heap.size W w5 := (Below.refl _ _).drew.trans x5; have S5 := hide (S4.out.next y5); have B5 := hide ((y5.block _ (lt_of_block B4.out)).trans B4.out); obtain ⟨g1, g2, g3, g4⟩ := cells4 B5.out; have g0 : w5.cell? ⟨w1.heap.size, 4, none⟩ = some (.func (.func 293) #[] #[]) := (by rw [cell_of_row _ _ _ _ _ _ S5.out.prt]; rfl); clear x5 y5)
              | (go_at_call 200; refine (HWR.out _ _ ([42] : By) S5.out (by have := HQL.out; have := HPN.out; omega)).mono ?_; rintro e w6 ⟨rfl, b6, x6, k6⟩; have S6 := hide (S5.out.wr b6 x6); have B6 := hide (kept_blk k6 B5.out HNB.out (by decide)); obtain ⟨h1, h2, h3, h4⟩ := cells4 B6.out; have h0 : w6.cell? ⟨w1.heap.size, 4, none⟩ = some (.func (.func 293) #[] #[]) := (by rw [cell_of_row _ _ _ _ _ _ S6.out.prt]; rfl); clear b6 x6 k6))
          go_wp2
          go_roundw
          case rel => exact ⟨k + 1, by omega, by go_num, by unfold Hid; rw [HTK.out]; exact S6.out⟩
          case measure => simp [RowKit.intOf]; omega
        · simp only at hkd
          subst hkd
          have t0 := tc 5 _ rfl
          have HPT : Hid (pcT ⟨5, kb, kn, kS⟩ = ([42, 42] : By)) := by simp [Hid, pcT]
          rw [HPT.out] at HTK
          have HKT := hide (fun W (_ : Below wr.heap.size wr W) => pt5_any 5 kb kn ks kS.length kc W)
          have HQL : Hid ((([42, 42] : By)).length ≤ 21474836500) := by unfold Hid; decide
          clear tc HPT
          go_wp2
          clear r0 r1 r2 r3
          generalize wr.alloc (.cells #[.int .i64 5, .int .i64 kb, .bool kn, .slice ks kS.length kc] 83) = W at *
          go_region_held3 (fun w' => w'.cell? ⟨w1.heap.size, 5, none⟩ = some (.func (.func 294) #[] #[]) ∧ w'.cell? ⟨wr.heap.size, 0, none⟩ = some (.int .i64 5) ∧ w'.cell? ⟨wr.heap.size, 1, none⟩ = some (.int .i64 kb) ∧ w'.cell? ⟨wr.heap.size, 2, none⟩ = some (.bool kn) ∧ w'.cell? ⟨wr.heap.size, 3, none⟩ = some (.slice ks kS.length kc)) (first | assumption | exact ⟨t0, q0, q1, q2, q3⟩ | exact ⟨g0, g1, g2, g3, g4⟩ | exact ⟨h0, h1, h2, h3, h4⟩ | (simp [go_sem, *]; done))
            (first
              | (go_at_call 294; refine (HKT.out _ (bt X4.out (Below.refl _ _).drew (Nat.le_refl _))).mono ?_; rintro e w5 ⟨rfl, x5⟩; have y5 : Below W.heap.size W w5 := (Below.refl _ _).drew.trans x5; have S5 := hide (S4.out.next y5); have B5 := hide ((y5.block _ (lt_of_block B4.out)).trans B4.out); obtain ⟨g1, g2, g3, g4⟩ := cells4 B5.out; have g0 : w5.cell? ⟨w1.heap.size, 5, none⟩ = some (.func (.func 294) #[] #[]) := (by rw [cell_of_row _ _ _ _ _ _ S5.out.prt]; rfl); clear x5 y5)
              | (go_at_call 200; refine (HWR.out _ _ ([42, 42] : By) S5.out (by have := HQL.out; have := HPN.out; omega)).mono ?_; rintro e w6 ⟨rfl, b6, x6, k6⟩; have S6 := hide (S5.out.wr b6 x6); have B6 := hide (kept_blk k6 B5.out HNB.out (by decide)); obtain ⟨h1, h2, h3, h4⟩ := cells4 B6.out; have h0 : w6.cell? ⟨w1.heap.size, 5, none⟩ = some (.func (.func 294) #[] #[]) := (by rw [cell_of_row _ _ _ _ _ _ S6.out.prt]; rfl); clear b6 x6 k6))
          go_wp2
          go_roundw
          case rel => exact ⟨k + 1, by omega, by go_num, by unfold Hid; rw [HTK.out]; exact S6.out⟩
          case measure => simp [RowKit.intOf]; omega
      · have hnl : ¬ (k : Int) < (D.length : Int) := by omega
        have hkl : k = D.length := by omega
        subst hkl
        rw [List.take_length] at S
        have HF : Hid (PrIs (D.map PD.p) (.returned (.tuple #[.string ⟨(D.flatMap fun d => pcT d.p).toArray⟩, .int .i64 0]))) := .inl ⟨HRT.out, by rw [prT_map]⟩
        generalize (D.flatMap fun d => pcT d.p) = l at *
        go_wp2_with (fail)
        refine (str_any w2.heap.size w2.heap.size l wr S.out.bld S.out.siz).mono ?_
        rintro e w5 ⟨rfl, x5⟩
        have X5 := hide (S.out.bel.trans (x5.mono (Nat.le_trans S.out.le (Nat.le_of_lt S.out.lt))))
        clear x5
        go_wp2
        go_ret2
        exact ⟨HF.out, X5.out⟩
  · have HF := hide hp
    clear hp
    go_wp2
    go_ret2
    exact ⟨.inr ⟨HF.out, rfl⟩, X1.out⟩
end Go.Proofs.YthgikaklcglpiaaGreatDoor.L5
