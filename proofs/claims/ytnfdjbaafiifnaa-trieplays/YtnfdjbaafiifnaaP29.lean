/-
  The document's with by its contract. Condition: a list is no longer than a process can hold.
-/
import Derived.Test.YtnfdjbaafiifnaaP23
import Derived.Test.YtnfdjbaafiifnaaP28
import Derived.Deep.RegionWith
namespace Go.Proofs.Ytnfdjbaafiifnaa
open Go.RowKit Go.Lib

abbrev Ct := Int × Int
def ctCells (C : List Ct) : List Value := C.flatMap fun c => [.int .i64 c.1, .int .i64 c.2]
def OwnC (w : World) (base : Nat) (v : Value) (C : List Ct) : Prop := w.ownsRow base 75 2 v C.length (ctCells C)
def withL (C : List Ct) (c : Ct) : List Ct := match C.getLast? with
  | none => C ++ [c]
  | some x => if x.2 = c.2 then C else C ++ [c]
theorem Try.info75 : (Try.prog.info? 75).map (fun i => (i.zero, i.size, i.bytes)) = some (some (.agg #[.int .i64 0, .int .i64 0]), 2, 16) := by kernel_rfl
theorem ctCells_get (C : List Ct) (i : Nat) (h : i < C.length) : (ctCells C)[i * 2]? = some (.int .i64 C[i].1) ∧ (ctCells C)[i * 2 + 1]? = some (.int .i64 C[i].2) := by
  induction C generalizing i with
  | nil => simp at h
  | cons c C ih =>
    have : ctCells (c :: C) = .int .i64 c.1 :: .int .i64 c.2 :: ctCells C := by simp [ctCells]
    rw [this]
    cases i with
    | zero => simp
    | succ i =>
      have := ih i (by simpa using h)
      rw [show (i + 1) * 2 = i * 2 + 2 by omega]
      simpa using this
theorem ctCells_snoc (C : List Ct) (c : Ct) : ctCells (C ++ [c]) = ctCells C ++ [.int .i64 c.1, .int .i64 c.2] := by simp [ctCells]
theorem withL_nil (c : Ct) : withL [] c = [c] := rfl
theorem withL_get {C : List Ct} {i : Nat} (h : i + 1 = C.length) (c : Ct) : withL C c = if (C[i]'(by omega)).2 = c.2 then C else C ++ [c] := by
  unfold withL
  rw [List.getLast?_eq_getElem?, show C.length - 1 = i by omega, List.getElem?_eq_getElem (by omega)]
set_option maxRecDepth 100000 in
set_option maxHeartbeats 2000000 in
theorem with_any (v : Value) (C : List Ct) (f l : Int) (base : Nat) (w : World) (hb : base ≤ w.heap.size) (hlen : C.length ≤ 8589934592) (hC : OwnC w base v C) :
    Calls Try.prog 47 #[v, .agg #[.int .i64 f, .int .i64 l]] w fun e w' => (∃ v', e = .returned v' ∧ OwnC w' base v' (withL C (f, l))) ∧ Below base w w' ∧ (∃ F : Nat → Prop, Kept F w w' ∧ ∀ k, F k → v.ownBlock = some k) := by
  obtain ⟨i75, hj, hy0, hy1, hy2⟩ := info_parts Try.info75
  obtain ⟨ao, cap, rfl, hp⟩ := own_shape hC
  have hX1 : Below w.heap.size w (w.alloc (.cells #[.int .i64 f, .int .i64 l] 75)) := al (Below.refl _ _) _
  have hP1 := heap_alloc_new w (.cells #[.int .i64 f, .int .i64 l] 75)
  have hC1 : OwnC (w.alloc (.cells #[.int .i64 f, .int .i64 l] 75)) base (.slice ao C.length cap) C := own_below hC hX1
  have HX1 := hide hX1
  have HB : Hid (base ≤ w.heap.size) := hb
  have t1 : (w.alloc (.cells #[.int .i64 f, .int .i64 l] 75)).cell? ⟨w.heap.size, 0, none⟩ = some (.int .i64 f) := by rw [cell_of_row _ w.heap.size 0 _ _ _ hP1]; rfl
  have t2 : (w.alloc (.cells #[.int .i64 f, .int .i64 l] 75)).cell? ⟨w.heap.size, 1, none⟩ = some (.int .i64 l) := by rw [cell_of_row _ w.heap.size 1 _ _ _ hP1]; rfl
  have hpl := lt_of_block hP1
  have HC1 := hide hC1
  clear hC hC1 hX1 hP1 hb
  by_cases h0 : C.length = 0
  · have hl0 : ¬ (0 : Int) < (C.length : Int) := by omega
    have hl1 : ¬ 0 < C.length := by omega
    have HE : Hid (withL C (f, l) = C ++ [(f, l)]) := by
      rw [List.eq_nil_of_length_eq_zero h0]; exact withL_nil _
    clear hp h0
    go_enter Try.func47, Try.ntmps47
    go_wp2
    generalize w.alloc (.cells #[.int .i64 f, .int .i64 l] 75) = W at *
    go_quiet (fail)
    have x3 : Below W.heap.size W ((W.drewN nq).alloc (.cells #[.int .i64 f, .int .i64 l] 75)) := al (below_drewN _ _ _) (.cells #[.int .i64 f, .int .i64 l] 75)
    have HN : Hid (∀ j u, ([.int .i64 f, .int .i64 l] : List Value)[j]? = some u → ((W.drewN nq).alloc (.cells #[.int .i64 f, .int .i64 l] 75)).cell? ((⟨W.heap.size, 0, none⟩ : Addr).add j) = some u) := by
      intro j u hu
      have e := heap_alloc_new (W.drewN nq) (.cells #[.int .i64 f, .int .i64 l] 75)
      rw [show (W.drewN nq).heap.size = W.heap.size by simp] at e
      match j, hu with
      | 0, hu => simp at hu; subst hu; rw [show (⟨W.heap.size, 0, none⟩ : Addr).add 0 = ⟨W.heap.size, 0, none⟩ from rfl, cell_of_row _ W.heap.size 0 _ _ _ e]; rfl
      | 1, hu => simp at hu; subst hu; rw [show (⟨W.heap.size, 0, none⟩ : Addr).add 1 = ⟨W.heap.size, 1, none⟩ from rfl, cell_of_row _ W.heap.size 1 _ _ _ e]; rfl
    have C3 := hide (own_below HC1.out x3)
    have X3 := hide x3
    have HB3 : Hid (base ≤ ((W.drewN nq).alloc (.cells #[.int .i64 f, .int .i64 l] 75)).heap.size) := Nat.le_trans HB.out (Nat.le_trans HX1.out.size x3.size)
    clear x3
    go_wp2_with (at_builtin; refine wpList_append_view rfl (.tmp 21) (.tmp 23) 76 rfl base 75 i75 (.agg #[.int .i64 0, .int .i64 0]) 2 16 Try.underlying76 hj hy0 hy1 hy2 rfl (by decide) _ C.length (ctCells C) rfl C3.out ⟨W.heap.size, 0, none⟩ 1 1 [.int .i64 f, .int .i64 l] rfl rfl HN.out (by simp [Value.oneCell']) (by decide) (by unfold maxLen; omega) (by omega) HB3.out ?_; intro v4 w4 h1 h2; have O4 := hide h1; have A4 := hide h2; clear h1 h2)
    go_ret
    obtain ⟨F, hk, hF⟩ := app_kept A4.out
    refine ⟨⟨_, rfl, ?_⟩, ((HX1.out.mono HB.out).trans (X3.out.mono (Nat.le_trans HB.out HX1.out.size))).trans ((appKept A4.out C3.out).below HB3.out (fun _ h => h)), F, ((Kept.of_below HX1.out).trans (Kept.of_below X3.out)).trans hk, hF⟩
    rw [HE.out]
    unfold OwnC
    rw [ctCells_snoc, List.length_append]
    exact O4.out
  · obtain ⟨i, hi⟩ : ∃ i, Hid (i + 1 = C.length) := ⟨C.length - 1, show C.length - 1 + 1 = C.length by omega⟩
    obtain ⟨g, rfl⟩ := hp (by omega)
    have hl1 : 0 < C.length := by omega
    have hl0 : (0 : Int) < (C.length : Int) := by omega
    have hiC : i < C.length := by have := hi.out; omega
    have hw3 : (C.length : Int) - 1 = (i : Int) := by have := hi.out; omega
    have hw5 : IntKind.i64.wrap (i : Int) = (i : Int) := by have := hi.out; simp [IntKind.wrap, IntKind.bits, IntKind.signed]; omega
    have hil : (i : Int) < (C.length : Int) := by omega
    have c2 : (w.alloc (.cells #[.int .i64 f, .int .i64 l] 75)).cell? ⟨g, i * 2 + 1, none⟩ = some (.int .i64 C[i].2) := by rw [World.ownsRow.cellAt HC1.out (i * 2 + 1) (by omega)]; exact (ctCells_get C i hiC).2
    have HW := hide (withL_get hi.out (f, l))
    clear h0 hp
    generalize C[i] = x at *
    by_cases he : x.2 = l
    · have HE : Hid (withL C (f, l) = C) := HW.out.trans (if_pos he)
      clear HW
      subst he
      go_enter Try.func47, Try.ntmps47
      go_wp2
      generalize w.alloc (.cells #[.int .i64 f, .int .i64 x.2] 75) = W at *
      go_quiet (fail)
      go_wp2
      go_ret
      refine ⟨⟨_, rfl, ?_⟩, (HX1.out.mono HB.out).trans ((below_drewN _ _ _ : Below W.heap.size W (W.drewN nq)).mono (Nat.le_trans HB.out HX1.out.size)), fun _ => False, Kept.of_below (bt HX1.out (below_drewN _ _ _) (Nat.le_refl _)), fun _ h => h.elim⟩
      rw [HE.out]
      exact own_below HC1.out (below_drewN _ _ _)
    · have HE : Hid (withL C (f, l) = C ++ [(f, l)]) := HW.out.trans (if_neg he)
      clear HW
      go_enter Try.func47, Try.ntmps47
      go_wp2
      generalize w.alloc (.cells #[.int .i64 f, .int .i64 l] 75) = W at *
      go_quiet (fail)
      have x3 : Below W.heap.size W ((W.drewN nq).alloc (.cells #[.int .i64 f, .int .i64 l] 75)) := al (below_drewN _ _ _) (.cells #[.int .i64 f, .int .i64 l] 75)
      have HN : Hid (∀ j u, ([.int .i64 f, .int .i64 l] : List Value)[j]? = some u → ((W.drewN nq).alloc (.cells #[.int .i64 f, .int .i64 l] 75)).cell? ((⟨W.heap.size, 0, none⟩ : Addr).add j) = some u) := by
        intro j u hu
        have e := heap_alloc_new (W.drewN nq) (.cells #[.int .i64 f, .int .i64 l] 75)
        rw [show (W.drewN nq).heap.size = W.heap.size by simp] at e
        match j, hu with
        | 0, hu => simp at hu; subst hu; rw [show (⟨W.heap.size, 0, none⟩ : Addr).add 0 = ⟨W.heap.size, 0, none⟩ from rfl, cell_of_row _ W.heap.size 0 _ _ _ e]; rfl
        | 1, hu => simp at hu; subst hu; rw [show (⟨W.heap.size, 0, none⟩ : Addr).add 1 = ⟨W.heap.size, 1, none⟩ from rfl, cell_of_row _ W.heap.size 1 _ _ _ e]; rfl
      have C3 := hide (own_below HC1.out x3)
      have X3 := hide x3
      have HB3 : Hid (base ≤ ((W.drewN nq).alloc (.cells #[.int .i64 f, .int .i64 l] 75)).heap.size) := Nat.le_trans HB.out (Nat.le_trans HX1.out.size x3.size)
      clear x3
      go_wp2_with (at_builtin; refine wpList_append_view rfl (.tmp 21) (.tmp 23) 76 rfl base 75 i75 (.agg #[.int .i64 0, .int .i64 0]) 2 16 Try.underlying76 hj hy0 hy1 hy2 rfl (by decide) _ C.length (ctCells C) rfl C3.out ⟨W.heap.size, 0, none⟩ 1 1 [.int .i64 f, .int .i64 l] rfl rfl HN.out (by simp [Value.oneCell']) (by decide) (by unfold maxLen; omega) (by omega) HB3.out ?_; intro v4 w4 h1 h2; have O4 := hide h1; have A4 := hide h2; clear h1 h2)
      go_ret
      obtain ⟨F, hk, hF⟩ := app_kept A4.out
      refine ⟨⟨_, rfl, ?_⟩, ((HX1.out.mono HB.out).trans (X3.out.mono (Nat.le_trans HB.out HX1.out.size))).trans ((appKept A4.out C3.out).below HB3.out (fun _ h => h)), F, ((Kept.of_below HX1.out).trans (Kept.of_below X3.out)).trans hk, hF⟩
      rw [HE.out]
      unfold OwnC
      rw [ctCells_snoc, List.length_append]
      exact O4.out
end Go.Proofs.Ytnfdjbaafiifnaa
/-
  The document's Make by its contract. Condition: a list is no longer than a process can hold.
-/
namespace Go.Proofs.Ytnfdjbaafiifnaa
open Go.RowKit Go.Lib

theorem withL_len (C : List Ct) (c : Ct) : (withL C c).length ≤ C.length + 1 := by
  unfold withL
  split
  · simp
  · split <;> simp
/-- What the document's Make tells. -/
def RmIs (L : List RZ) (e : Ending) : Prop := ((∃ R, L = zr R ∧ RtR none 0 R) ∧ ∃ b, e = .returned (.tuple #[.pointer (some ⟨b, 0, none⟩), .int .i64 0])) ∨ ((¬ ∃ R, L = zr R ∧ RtR none 0 R) ∧ e = .returned (.tuple #[.pointer none, .int .i64 40]))
set_option maxRecDepth 100000 in
set_option maxHeartbeats 4000000 in
theorem refMake_any (ao : Option Addr) (cap : Nat) (L : List RZ) (w : World) (hl : L.length ≤ 4294967296) (hat : RwAt w ao L) :
    Calls Try.prog 33 #[.slice ao L.length cap] w fun e w' => RmIs L e ∧ Below w.heap.size w w' := by
  have hr := refRightL_any ao cap L w (by omega) hat
  have HR := hide hr
  have HAT := hide hat
  clear hr hat
  go_enter Try.func33, Try.ntmps33
  go_wp2_with (fail)
  refine HR.out.mono ?_
  rintro e w1 ⟨⟨bo, rfl, hbo⟩, x1⟩
  have X1 := hide x1
  cases bo with
  | false =>
    have HF : Hid (RmIs L (.returned (.tuple #[.pointer none, .int .i64 40]))) := .inr ⟨fun h => (by have := hbo.2 h; cases this), rfl⟩
    clear hbo x1
    go_wp2
    go_ret2
    exact ⟨HF.out, X1.out⟩
  | true =>
    have HF : Hid (∀ b, RmIs L (.returned (.tuple #[.pointer (some ⟨b, 0, none⟩), .int .i64 0]))) := fun b => .inl ⟨hbo.1 rfl, b, rfl⟩
    have hP := heap_alloc_new w1 (.cells #[.slice none 0 0] 78)
    have hX2 := al x1 (.cells #[.slice none 0 0] 78)
    have HP := hide hP
    have HX2 := hide hX2
    have HS1 := hide x1.size
    clear hbo x1 hP hX2
    go_wp2
    go_loopw [6] (fun x wr => ∃ k : Nat, k ≤ L.length ∧ x = .int .i64 k ∧ ∃ v C, Hid (wr.heap[w1.heap.size]? = some (.cells #[v] 78 (0, 0))) ∧ Hid (OwnC wr w.heap.size v C) ∧ Hid (C.length ≤ k) ∧ Hid (Below w.heap.size w wr)) (fun x _ => L.length - (RowKit.intOf x).toNat)
    case atStart => exact ⟨0, Nat.zero_le _, rfl, _, [], HP, World.ownsRow_nil _ _ 75 2, Nat.le_refl _, HX2⟩
    case round =>
      obtain ⟨k, hk, rfl, v, C, HV, HC, HCL, X⟩ := hrel
      rename World => wr
      by_cases hlt : k < L.length
      · have hlt' : (k : Int) < (L.length : Int) := by omega
        rcases HAT.out with h | ⟨b, off, rfl, hb, hc⟩
        · rw [h] at hlt; simp at hlt
        obtain ⟨p1, _, p3⟩ := hc k hlt
        have hbw : b < wr.heap.size := Nat.lt_of_lt_of_le hb X.out.size
        have r1 := (X.out.cell (p := ⟨b, off + k * 3, none⟩) hb).trans p1
        have r3 := (X.out.cell (p := ⟨b, off + k * 3 + 2, none⟩) hb).trans p3
        generalize L.getD k ((0, 0), 0) = z at *
        obtain ⟨a2, c2, rfl, _⟩ := own_shape HC.out
        have t1 : wr.cell? ⟨w1.heap.size, 0, none⟩ = some (.slice a2 C.length c2) := by rw [cell_of_row wr w1.heap.size 0 _ _ _ HV.out]; rfl
        have htl := lt_of_block HV.out
        have HWT := hide (fun W (x : Below wr.heap.size wr W) => with_any (.slice a2 C.length c2) C z.1.1 z.2 w.heap.size W (Nat.le_trans X.out.size x.size) (by have := HCL.out; omega) (own_below HC.out x))
        clear hc p1 p3
        go_wp2
        go_region_with (first
          | (go_at_call 47; refine (HWT.out _ (Below.refl _ _).drew).mono ?_; rintro e w5 ⟨⟨v5, rfl, o5⟩, x5, F, k5, hF⟩; have B5 := hide ((k5.block w1.heap.size htl (fun hf => by obtain ⟨cs, h5⟩ := own_ty HC.out _ (hF _ hf); rw [HV.out] at h5; simp at h5)).trans HV.out); have c5 : w5.cell? ⟨w1.heap.size, 0, none⟩ = some (.slice a2 C.length c2) := (by rw [cell_of_row w5 w1.heap.size 0 _ _ _ B5.out]; rfl); have f5 := frozen_of_row w5 w1.heap.size 0 _ _ B5.out; have O5 := hide o5; have X5 := hide (X.out.trans ((Below.refl _ _).drew.trans x5)); obtain ⟨a5, d5, rfl, _⟩ := own_shape o5; clear o5 x5 k5 hF))
        all_goals
          have HLN := hide (withL_len C (z.1.1, z.2))
          have V6 := hide ((block_setCell B5.out 0 (.slice a5 (withL C (z.1.1, z.2)).length d5)))
          have C6 : Hid (OwnC (w5.setCell ⟨w1.heap.size, 0, none⟩ (.slice a5 (withL C (z.1.1, z.2)).length d5)) w.heap.size (.slice a5 (withL C (z.1.1, z.2)).length d5) (withL C (z.1.1, z.2))) := own_kept O5.out (Kept.setCell (F := fun x => x = w1.heap.size) (p := ⟨w1.heap.size, 0, none⟩) (Kept.refl _ _) rfl _) (fun x h3 h4 => by
            subst h4
            obtain ⟨cs, h5⟩ := own_ty O5.out _ h3
            have h6 := B5.out
            rw [h5] at h6
            simp at h6)
          have X6 := hide (X5.out.setCell (p := ⟨w1.heap.size, 0, none⟩) HS1.out (.slice a5 (withL C (z.1.1, z.2)).length d5))
          clear c5 f5
          go_wp2
          go_roundw
          case rel => exact ⟨k + 1, by omega, by go_num, _, _, V6, C6, by have := HLN.out; have := HCL.out; unfold Hid; omega, X6⟩
          case measure => simp [RowKit.intOf]; omega
      · have hnl : ¬ (k : Int) < (L.length : Int) := by omega
        go_wp2
        go_ret2
        exact ⟨HF.out _, X.out⟩
end Go.Proofs.Ytnfdjbaafiifnaa
