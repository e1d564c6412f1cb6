/-
  The document's with by its contract. Condition: a list is no longer than a process can hold.
-/
import Derived.Test.YtnfdjbaafiifnaaTb
namespace Go.Proofs.Ytnfdjbaafiifnaa
open Go.RowKit Go.Lib

abbrev Ct := Int × Int
def ctCells (C : List Ct) : List Value := C.flatMap fun c => [.int .i64 c.1, .int .i64 c.2]
def OwnC (w : World) (base : Nat) (v : Value) (C : List Ct) : Prop := w.ownsRow base 75 2 v C.length (ctCells C)
def withL (C : List Ct) (c : Ct) : List Ct := match C.getLast? with
  | none => C ++ [c]
  | some x => if x.2 = c.2 then C else C ++ [c]
theorem Try.info75 : (Try.prog.info? 75).map (fun i => (i.zero, i.size, i.bytes)) = some (some (.agg #[.int .i64 0, .int .i64 0]), 2, 16) := by kernel_rfl
theorem ctCells_get (C : List Ct) (i : Nat) (h : i < C.length) : (ctCells C)[i * 2]? = some (.int .i64 C[i].1) ∧ (ctCells C)[i * 2 + 1]? = some (.int .i64 C[i].2) := by
  induction C generalizing i with
  | nil => simp at h
  | cons c C ih =>
    have : ctCells (c :: C) = .int .i64 c.1 :: .int .i64 c.2 :: ctCells C := by simp [ctCells]
    rw [this]
    cases i with
    | zero => simp
    | succ i =>
      have := ih i (by simpa using h)
      rw [show (i + 1) * 2 = i * 2 + 2 by omega]
      simpa using this
theorem ctCells_snoc (C : List Ct) (c : Ct) : ctCells (C ++ [c]) = ctCells C ++ [.int .i64 c.1, .int .i64 c.2] := by simp [ctCells]
theorem withL_nil (c : Ct) : withL [] c = [c] := rfl
theorem withL_get {C : List Ct} {i : Nat} (h : i + 1 = C.length) (c : Ct) : withL C c = if (C[i]'(by omega)).2 = c.2 then C else C ++ [c] := by
  unfold withL
  rw [List.getLast?_eq_getElem?, show C.length - 1 = i by omega, List.getElem?_eq_getElem (by omega)]
set_option maxRecDepth 100000 in
set_option maxHeartbeats 2000000 in
theorem with_any (v : Value) (C : List Ct) (f l : Int) (base : Nat) (w : World) (hb : base ≤ w.heap.size) (hlen : C.length ≤ 8589934592) (hC : OwnC w base v C) :
    Calls Try.prog 47 #[v, .agg #[.int .i64 f, .int .i64 l]] w fun e w' => (∃ v', e = .returned v' ∧ OwnC w' base v' (withL C (f, l))) ∧ Below base w w' ∧ (∃ F : Nat → Prop, Kept F w w' ∧ ∀ k, F k → v.ownBlock = some k) := by
  obtain ⟨i75, hj, hy0, hy1, hy2⟩ := info_parts Try.info75
  obtain ⟨ao, cap, rfl, hp⟩ := own_shape hC
  have hX1 : Below w.heap.size w (w.alloc (.cells #[.int .i64 f, .int .i64 l] 75)) := al (Below.refl _ _) _
  have hP1 := heap_alloc_new w (.cells #[.int .i64 f, .int .i64 l] 75)
  have hC1 : OwnC (w.alloc (.cells #[.int .i64 f, .int .i64 l] 75)) base (.slice ao C.length cap) C := own_below hC hX1
  have HX1 := hide hX1
  have HB : Hid (base ≤ w.heap.size) := hb
  have t1 : (w.alloc (.cells #[.int .i64 f, .int .i64 l] 75)).cell? ⟨w.heap.size, 0, none⟩ = some (.int .i64 f) := by rw [cell_of_row _ w.heap.size 0 _ _ _ hP1]; rfl
  have t2 : (w.alloc (.cells #[.int .i64 f, .int .i64 l] 75)).cell? ⟨w.heap.size, 1, none⟩ = some (.int .i64 l) := by rw [cell_of_row _ w.heap.size 1 _ _ _ hP1]; rfl
  have hpl := lt_of_block hP1
  have HC1 := hide hC1
  clear hC hC1 hX1 hP1 hb
  by_cases h0 : C.length = 0
  · have hl0 : ¬ (0 : Int) < (C.length : Int) := by omega
    have hl1 : ¬ 0 < C.length := by omega
    have HE : Hid (withL C (f, l) = C ++ [(f, l)]) := by
      rw [List.eq_nil_of_length_eq_zero h0]; exact withL_nil _
    clear hp h0
    go_enter Try.func47, Try.ntmps47
    go_wp2
    generalize w.alloc (.cells #[.int .i64 f, .int .i64 l] 75) = W at *
    go_quiet (fail)
    have x3 : Below W.heap.size W ((W.drewN nq).alloc (.cells #[.int .i64 f, .int .i64 l] 75)) := al (below_drewN _ _ _) (.cells #[.int .i64 f, .int .i64 l] 75)
    have HN : Hid (∀ j u, ([.int .i64 f, .int .i64 l] : List Value)[j]? = some u → ((W.drewN nq).alloc (.cells #[.int .i64 f, .int .i64 l] 75)).cell? ((⟨W.heap.size, 0, none⟩ : Addr).add j) = some u) := by
      intro j u hu
      have e := heap_alloc_new (W.drewN nq) (.cells #[.int .i64 f, .int .i64 l] 75)
      rw [show (W.drewN nq).heap.size = W.heap.size by simp] at e
      match j, hu with
      | 0, hu => simp at hu; subst hu; rw [show (⟨W.heap.size, 0, none⟩ : Addr).add 0 = ⟨W.heap.size, 0, none⟩ from rfl, cell_of_row _ W.heap.size 0 _ _ _ e]; rfl
      | 1, hu => simp at hu; subst hu; rw [show (⟨W.heap.size, 0, none⟩ : Addr).add 1 = ⟨W.heap.size, 1, none⟩ from rfl, cell_of_row _ W.heap.size 1 _ _ _ e]; rfl
    have C3 := hide (own_below HC1.out x3)
    have X3 := hide x3
    have HB3 : Hid (base ≤ ((W.drewN nq).alloc (.cells #[.int .i64 f, .int .i64 l] 75)).heap.size) := Nat.le_trans HB.out (Nat.le_trans HX1.out.size x3.size)
    clear x3
    go_wp2_with (at_builtin; refine wpList_append_view rfl (.tmp 21) (.tmp 23) 76 rfl base 75 i75 (.agg #[.int .i64 0, .int .i64 0]) 2 16 Try.underlying76 hj hy0 hy1 hy2 rfl (by decide) _ C.length (ctCells C) rfl C3.out ⟨W.heap.size, 0, none⟩ 1 1 [.int .i64 f, .int .i64 l] rfl rfl HN.out (by simp [Value.oneCell']) (by decide) (by unfold maxLen; omega) (by omega) HB3.out ?_; intro v4 w4 h1 h2; have O4 := hide h1; have A4 := hide h2; clear h1 h2)
    go_ret
    obtain ⟨F, hk, hF⟩ := app_kept A4.out
    refine ⟨⟨_, rfl, ?_⟩, ((HX1.out.mono HB.out).trans (X3.out.mono (Nat.le_trans HB.out HX1.out.size))).trans ((appKept A4.out C3.out).below HB3.out (fun _ h => h)), F, ((Kept.of_below HX1.out).trans (Kept.of_below X3.out)).trans hk, hF⟩
    rw [HE.out]
    unfold OwnC
    rw [ctCells_snoc, List.length_append]
    exact O4.out
  · obtain ⟨i, hi⟩ : ∃ i, Hid (i + 1 = C.length) := ⟨C.length - 1, show C.length - 1 + 1 = C.length by omega⟩
    obtain ⟨g, rfl⟩ := hp (by omega)
    have hl1 : 0 < C.length := by omega
    have hl0 : (0 : Int) < (C.length : Int) := by omega
    have hiC : i < C.length := by have := hi.out; omega
    have hw3 : (C.length : Int) - 1 = (i : Int) := by have := hi.out; omega
    have hw5 : IntKind.i64.wrap (i : Int) = (i : Int) := by have := hi.out; simp [IntKind.wrap, IntKind.bits, IntKind.signed]; omega
    have hil : (i : Int) < (C.length : Int) := by omega
    have c2 : (w.alloc (.cells #[.int .i64 f, .int .i64 l] 75)).cell? ⟨g, i * 2 + 1, none⟩ = some (.int .i64 C[i].2) := by rw [World.ownsRow.cellAt HC1.out (i * 2 + 1) (by omega)]; exact (ctCells_get C i hiC).2
    have HW := hide (withL_get hi.out (f, l))
    clear h0 hp
    generalize C[i] = x at *
    by_cases he : x.2 = l
    · have HE : Hid (withL C (f, l) = C) := HW.out.trans (if_pos he)
      clear HW
      subst he
      go_enter Try.func47, Try.ntmps47
      go_wp2
      generalize w.alloc (.cells #[.int .i64 f, .int .i64 x.2] 75) = W at *
      go_quiet (fail)
      go_wp2
      go_ret
      refine ⟨⟨_, rfl, ?_⟩, (HX1.out.mono HB.out).trans ((below_drewN _ _ _ : Below W.heap.size W (W.drewN nq)).mono (Nat.le_trans HB.out HX1.out.size)), fun _ => False, Kept.of_below (bt HX1.out (below_drewN _ _ _) (Nat.le_refl _)), fun _ h => h.elim⟩
      rw [HE.out]
      exact own_below HC1.out (below_drewN _ _ _)
    · have HE : Hid (withL C (f, l) = C ++ [(f, l)]) := HW.out.trans (if_neg he)
      clear HW
      go_enter Try.func47, Try.ntmps47
      go_wp2
      generalize w.alloc (.cells #[.int .i64 f, .int .i64 l] 75) = W at *
      go_quiet (fail)
      have x3 : Below W.heap.size W ((W.drewN nq).alloc (.cells #[.int .i64 f, .int .i64 l] 75)) := al (below_drewN _ _ _) (.cells #[.int .i64 f, .int .i64 l] 75)
      have HN : Hid (∀ j u, ([.int .i64 f, .int .i64 l] : List Value)[j]? = some u → ((W.drewN nq).alloc (.cells #[.int .i64 f, .int .i64 l] 75)).cell? ((⟨W.heap.size, 0, none⟩ : Addr).add j) = some u) := by
        intro j u hu
        have e := heap_alloc_new (W.drewN nq) (.cells #[.int .i64 f, .int .i64 l] 75)
        rw [show (W.drewN nq).heap.size = W.heap.size by simp] at e
        match j, hu with
        | 0, hu => simp at hu; subst hu; rw [show (⟨W.heap.size, 0, none⟩ : Addr).add 0 = ⟨W.heap.size, 0, none⟩ from rfl, cell_of_row _ W.heap.size 0 _ _ _ e]; rfl
        | 1, hu => simp at hu; subst hu; rw [show (⟨W.heap.size, 0, none⟩ : Addr).add 1 = ⟨W.heap.size, 1, none⟩ from rfl, cell_of_row _ W.heap.size 1 _ _ _ e]; rfl
      have C3 := hide (own_below HC1.out x3)
      have X3 := hide x3
      have HB3 : Hid (base ≤ ((W.drewN nq).alloc (.cells #[.int .i64 f, .int .i64 l] 75)).heap.size) := Nat.le_trans HB.out (Nat.le_trans HX1.out.size x3.size)
      clear x3
      go_wp2_with (at_builtin; refine wpList_append_view rfl (.tmp 21) (.tmp 23) 76 rfl base 75 i75 (.agg #[.int .i64 0, .int .i64 0]) 2 16 Try.underlying76 hj hy0 hy1 hy2 rfl (by decide) _ C.length (ctCells C) rfl C3.out ⟨W.heap.size, 0, none⟩ 1 1 [.int .i64 f, .int .i64 l] rfl rfl HN.out (by simp [Value.oneCell']) (by decide) (by unfold maxLen; omega) (by omega) HB3.out ?_; intro v4 w4 h1 h2; have O4 := hide h1; have A4 := hide h2; clear h1 h2)
      go_ret
      obtain ⟨F, hk, hF⟩ := app_kept A4.out
      refine ⟨⟨_, rfl, ?_⟩, ((HX1.out.mono HB.out).trans (X3.out.mono (Nat.le_trans HB.out HX1.out.size))).trans ((appKept A4.out C3.out).below HB3.out (fun _ h => h)), F, ((Kept.of_below HX1.out).trans (Kept.of_below X3.out)).trans hk, hF⟩
      rw [HE.out]
      unfold OwnC
      rw [ctCells_snoc, List.length_append]
      exact O4.out
end Go.Proofs.Ytnfdjbaafiifnaa
