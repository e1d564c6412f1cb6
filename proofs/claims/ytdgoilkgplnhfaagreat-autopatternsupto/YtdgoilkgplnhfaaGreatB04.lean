/-
  slices.Compare of two pairs, and the comparison that risingOnce hands on, by their contracts. No condition.
-/
import Derived.Test.YtdgoilkgplnhfaaGreatB03
import Derived.Deep.RegionHeld3
import Derived.Shelf.SlSortCmp.Whole1
import Derived.Test.YtdgoilkgplnhfaaGreatB02
import Derived.Lib.SliceRun
import Derived.Laws.OwnMore
import Derived.Maps.AppendAt
import Derived.OwnWalk
import Derived.ArgAppend
namespace Go.Proofs.YtdgoilkgplnhfaaGreat
open Go.RowKit Go.Lib Go.Sort Go.Shelf

/-- By the first, then by the second. -/
def cmpP (x y : Spn) : Int := if Lib.compareInt x.1 y.1 = 0 then Lib.compareInt x.2 y.2 else Lib.compareInt x.1 y.1
set_option maxRecDepth 100000 in
set_option maxHeartbeats 4000000 in
theorem compare98_any (x y : Spn) (g h : Nat) (w : World) (x0 : w.cell? ⟨g, 0, none⟩ = some (.int .i64 x.1)) (x1 : w.cell? ⟨g, 1, none⟩ = some (.int .i64 x.2)) (y0 : w.cell? ⟨h, 0, none⟩ = some (.int .i64 y.1)) (y1 : w.cell? ⟨h, 1, none⟩ = some (.int .i64 y.2)) :
    Calls Tryz.prog 98 #[.slice (some ⟨g, 0, none⟩) 2 2, .slice (some ⟨h, 0, none⟩) 2 2] w fun e w' => e = .returned (.int .i64 (cmpP x y)) ∧ w' = w := by
  obtain ⟨xa, xb⟩ := x
  obtain ⟨ya, yb⟩ := y
  have hc1 : ∀ W', Calls Tryz.prog 129 #[.int .i64 xa, .int .i64 ya] W' fun e w' => e = .returned (.int .i64 (Lib.compareInt xa ya)) ∧ w' = W' := fun W' => AnyG.cmp_Compare_int Tryz.cmpInt xa ya W'
  have hc2 : ∀ W', Calls Tryz.prog 129 #[.int .i64 xb, .int .i64 yb] W' fun e w' => e = .returned (.int .i64 (Lib.compareInt xb yb)) ∧ w' = W' := fun W' => AnyG.cmp_Compare_int Tryz.cmpInt xb yb W'
  have HE : Hid (cmpP (xa, xb) (ya, yb) = if Lib.compareInt xa ya = 0 then Lib.compareInt xb yb else Lib.compareInt xa ya) := rfl
  rw [HE.out]
  simp only at x0 x1 y0 y1
  generalize Lib.compareInt xa ya = r1 at *
  generalize Lib.compareInt xb yb = r2 at *
  clear HE
  have HC1 := hide hc1
  have HC2 := hide hc2
  clear hc1 hc2
  go_enter Tryz.func98, Tryz.ntmps98
  go_wp2
  go_loopg [11] 4 (fun gg c wr => wr = w ∧ ((c = .int .i64 0 ∧ 3 ≤ gg) ∨ (c = .int .i64 1 ∧ r1 = 0 ∧ 2 ≤ gg) ∨ (c = .int .i64 2 ∧ r1 = 0 ∧ r2 = 0 ∧ 1 ≤ gg)))
  case atStart => exact ⟨rfl, .inl ⟨rfl, by omega⟩⟩
  case round =>
    obtain ⟨rfl, ⟨rfl, hg⟩ | ⟨rfl, h1, hg⟩ | ⟨rfl, h1, h2, hg⟩⟩ := hrel
    · by_cases hr : r1 = 0
      · go_wp2_with (go_at_call 129; refine (HC1.out _).mono ?_; rintro e w3 ⟨rfl, hw3⟩; have hw3 := hw3.symm; subst hw3)
        go_roundg 2
        case measure => omega
        case rel => exact ⟨rfl, .inr (.inl ⟨rfl, hr, by omega⟩)⟩
      · go_wp2_with (go_at_call 129; refine (HC1.out _).mono ?_; rintro e w3 ⟨rfl, hw3⟩; have hw3 := hw3.symm; subst hw3)
        go_ret
        exact ⟨rfl, rfl⟩
    · have H1 := hide h1
      clear h1
      by_cases hr : r2 = 0
      · go_wp2_with (go_at_call 129; refine (HC2.out _).mono ?_; rintro e w3 ⟨rfl, hw3⟩; have hw3 := hw3.symm; subst hw3)
        go_roundg 1
        case measure => omega
        case rel => exact ⟨rfl, .inr (.inr ⟨rfl, H1.out, hr, by omega⟩)⟩
      · go_wp2_with (go_at_call 129; refine (HC2.out _).mono ?_; rintro e w3 ⟨rfl, hw3⟩; have hw3 := hw3.symm; subst hw3)
        go_ret
        first | exact ⟨rfl, rfl⟩ | exact ⟨by rw [if_pos H1.out]; rfl, rfl⟩
    · have H1 := hide h1
      have H2 := hide h2
      clear h1 h2
      go_wp2
      go_ret
      have h1 := H1.out
      have h2 := H2.out
      subst h1 h2
      first | exact ⟨rfl, rfl⟩ | (simp; done)
set_option maxRecDepth 100000 in
theorem cmp97_any (x y : Spn) (W : World) : Calls Tryz.prog 97 #[.agg #[.int .i64 x.1, .int .i64 x.2], .agg #[.int .i64 y.1, .int .i64 y.2]] W fun e w' => e = .returned (.int .i64 (cmpP x y)) ∧ ∃ q os', w' = grow (W.drewN q) os' := by
  obtain ⟨W2, hW2⟩ : ∃ W2, W2 = (W.alloc (.cells #[.int .i64 x.1, .int .i64 x.2] 48)).alloc (.cells #[.int .i64 y.1, .int .i64 y.2] 48) := ⟨_, rfl⟩
  have e1 : (W.alloc (.cells #[.int .i64 x.1, .int .i64 x.2] 48)).heap.size = W.heap.size + 1 := by simp
  have B2 := heap_alloc_new (W.alloc (.cells #[.int .i64 x.1, .int .i64 x.2] 48)) (.cells #[.int .i64 y.1, .int .i64 y.2] 48)
  have X2 : Below (W.alloc (.cells #[.int .i64 x.1, .int .i64 x.2] 48)).heap.size (W.alloc (.cells #[.int .i64 x.1, .int .i64 x.2] 48)) ((W.alloc (.cells #[.int .i64 x.1, .int .i64 x.2] 48)).alloc (.cells #[.int .i64 y.1, .int .i64 y.2] 48)) := (Below.refl _ _).alloc (Nat.le_refl _) _
  have B1 := (X2.block W.heap.size (by omega)).trans (heap_alloc_new W (.cells #[.int .i64 x.1, .int .i64 x.2] 48))
  clear X2
  rw [e1] at B2
  rw [← hW2] at B1 B2
  have HC : Hid (∀ n, Calls Tryz.prog 98 #[.slice (some ⟨W.heap.size, 0, none⟩) 2 2, .slice (some ⟨W.heap.size + 1, 0, none⟩) 2 2] (W2.drewN n) fun e w' => e = .returned (.int .i64 (cmpP x y)) ∧ w' = W2.drewN n) := fun n => by
    have b1 : (W2.drewN n).heap[W.heap.size]? = _ := B1
    have b2 : (W2.drewN n).heap[W.heap.size + 1]? = _ := B2
    exact compare98_any x y _ _ _ (by rw [cell_of_row _ _ _ _ _ _ b1]; rfl) (by rw [cell_of_row _ _ _ _ _ _ b1]; rfl) (by rw [cell_of_row _ _ _ _ _ _ b2]; rfl) (by rw [cell_of_row _ _ _ _ _ _ b2]; rfl)
  have HG : Hid (∀ n, ∃ q os', W2.drewN n = grow (W.drewN q) os') := fun n => ⟨n, _, by rw [hW2, alloc_eq_grow, alloc_eq_grow, grow_grow]; rfl⟩
  generalize cmpP x y = r at *
  clear B1 B2 e1
  go_enter Tryz.func97, Tryz.ntmps97
  go_upto_region 1 with fail
  rw [← hW2]
  clear hW2
  go_region_held3 (fun _ => True) (trivial) (first | (go_at_call 98; refine (HC.out 1).mono ?_; rintro e w3 ⟨rfl, hw3⟩; have hw3 := hw3.symm; subst hw3))
  all_goals
    go_wp2
    go_ret
    exact ⟨rfl, HG.out 1⟩
end Go.Proofs.YtdgoilkgplnhfaaGreat
/-
  The contract of slices.SortFunc at rows of numbers, laid off the library: no condition of ours.
-/
namespace Go.Proofs
open Go.Shelf

theorem Tryz.sortN : Go.Proofs.SlLaysF.n6 Tryz.prog Tryz.sortI_ren := {
  mixed := by kernel_rfl
  f6 := ⟨Tryz.f135.name, by decide, Tryz.func135.trans (congrArg some (by kernel_rfl))⟩
  f14 := ⟨Tryz.f163.name, by decide, Tryz.func163.trans (congrArg some (by kernel_rfl))⟩
  f15 := Tryz.func128.trans (congrArg some (by kernel_rfl))
  f20 := ⟨Tryz.f171.name, by decide, Tryz.func171.trans (congrArg some (by kernel_rfl))⟩
  f21 := ⟨Tryz.f172.name, by decide, Tryz.func172.trans (congrArg some (by kernel_rfl))⟩
  f22 := ⟨Tryz.f173.name, by decide, Tryz.func173.trans (congrArg some (by kernel_rfl))⟩
  f23 := ⟨Tryz.f174.name, by decide, Tryz.func174.trans (congrArg some (by kernel_rfl))⟩
  f24 := ⟨Tryz.f175.name, by decide, Tryz.func175.trans (congrArg some (by kernel_rfl))⟩
  f25 := ⟨Tryz.f176.name, by decide, Tryz.func176.trans (congrArg some (by kernel_rfl))⟩
  f26 := ⟨Tryz.f177.name, by decide, Tryz.func177.trans (congrArg some (by kernel_rfl))⟩
  f27 := ⟨Tryz.f178.name, by decide, Tryz.func178.trans (congrArg some (by kernel_rfl))⟩
  f28 := Tryz.func158.trans (congrArg some (by kernel_rfl))
  f29 := Tryz.func159.trans (congrArg some (by kernel_rfl))
  f46 := ⟨Tryz.f188.name, by decide, Tryz.func188.trans (congrArg some (by kernel_rfl))⟩
  f47 := Tryz.func167.trans (congrArg some (by kernel_rfl))
  f48 := Tryz.func168.trans (congrArg some (by kernel_rfl))
  f49 := ⟨Tryz.f189.name, by decide, Tryz.func189.trans (congrArg some (by kernel_rfl))⟩
  f50 := ⟨Tryz.f190.name, by decide, Tryz.func190.trans (congrArg some (by kernel_rfl))⟩
  f57 := ⟨Tryz.f194.name, by decide, Tryz.func194.trans (congrArg some (by kernel_rfl))⟩
  t0 := Tryz.underlying0
  a0 := Tryz.isAgg0
  z0 := Tryz.sizeOf0
  v0 := Tryz.zeroValue0
  t3 := Tryz.underlying3
  a3 := Tryz.isAgg3
  z3 := Tryz.sizeOf3
  v3 := Tryz.zeroValue3
  t4 := Tryz.underlying4
  a4 := Tryz.isAgg4
  z4 := Tryz.sizeOf4
  v4 := Tryz.zeroValue4
  t5 := Tryz.underlying5
  a5 := Tryz.isAgg5
  z5 := Tryz.sizeOf5
  v5 := Tryz.zeroValue5
  t9 := Tryz.underlying9
  a9 := Tryz.isAgg9
  z9 := Tryz.sizeOf9
  v9 := Tryz.zeroValue9
  t22 := Tryz.underlying22
  a22 := Tryz.isAgg22
  z22 := Tryz.sizeOf22
  v22 := Tryz.zeroValue22
  a24 := Tryz.isAgg3
  z24 := Tryz.sizeOf3
  t25 := Tryz.underlying59
  a25 := Tryz.isAgg59
  z25 := Tryz.sizeOf59
  v25 := Tryz.zeroValue59
  t39 := Tryz.underlying183
  a39 := Tryz.isAgg183
  z39 := Tryz.sizeOf183
  v39 := Tryz.zeroValue183
  t45 := Tryz.underlying198
  a45 := Tryz.isAgg198
  z45 := Tryz.sizeOf198
  v45 := Tryz.zeroValue198
  t46 := Tryz.underlying199
  a46 := Tryz.isAgg199
  z46 := Tryz.sizeOf199
  v46 := Tryz.zeroValue199
  t50 := Tryz.underlying134
  a50 := Tryz.isAgg134
  z50 := Tryz.sizeOf134
  v50 := Tryz.zeroValue134
  t53 := Tryz.underlying205
  a53 := Tryz.isAgg205
  z53 := Tryz.sizeOf205
  v53 := Tryz.zeroValue205
  t55 := Tryz.underlying207
  a55 := Tryz.isAgg207
  z55 := Tryz.sizeOf207
  v55 := Tryz.zeroValue207
  t66 := Tryz.underlying212
  a66 := Tryz.isAgg212
  z66 := Tryz.sizeOf212
  v66 := Tryz.zeroValue212
  t70 := Tryz.underlying216
  a70 := Tryz.isAgg216
  z70 := Tryz.sizeOf216
  v70 := Tryz.zeroValue216
  t76 := Tryz.underlying228
  a76 := Tryz.isAgg228
  z76 := Tryz.sizeOf228
  v76 := Tryz.zeroValue228
  t77 := Tryz.underlying229
  a77 := Tryz.isAgg229
  z77 := Tryz.sizeOf229
  v77 := Tryz.zeroValue229 }
end Go.Proofs
/-
  Lists that came out, each in a block of its own: all marked, then grown one by one; what was looked at stays. Of no program: no condition.
-/
namespace Go.Proofs.YtdgoilkgplnhfaaGreat
open Go.RowKit Go.Lib

/-- A list: its value, its length. -/
structure LD where
  v : Value
  n : Nat
/-- n marks, cell by cell. -/
def rep (mc : Nat → List Value) (i n : Nat) : List Value := (List.replicate n (mc i)).flatten
theorem rep_zero (mc : Nat → List Value) (i : Nat) : rep mc i 0 = [] := rfl
theorem rep_succ (mc : Nat → List Value) (i n : Nat) : rep mc i (n + 1) = rep mc i n ++ mc i := by
  unfold rep
  rw [List.replicate_succ', List.flatten_append]
  simp
theorem rep_length {mc : Nat → List Value} {sz : Nat} (h : ∀ i, (mc i).length = sz) (i n : Nat) : (rep mc i n).length = n * sz := by
  induction n with
  | zero => simp [rep_zero]
  | succ n ih => rw [rep_succ, List.length_append, ih, h, Nat.succ_mul]
theorem rep_get {mc : Nat → List Value} {sz : Nat} (h : ∀ i, (mc i).length = sz) (i n j : Nat) (hj : j < n * sz) : (rep mc i n)[j]? = (mc i)[j % sz]? := by
  induction n with
  | zero => omega
  | succ n ih =>
    rw [rep_succ]
    by_cases hn : j < n * sz
    · rw [List.getElem?_append_left (by rw [rep_length h]; exact hn), ih hn]
    · rw [List.getElem?_append_right (by rw [rep_length h]; omega), rep_length h]
      rw [Nat.succ_mul] at hj
      have e : j % sz = j - n * sz := by
        obtain ⟨d, rfl⟩ : ∃ d, j = n * sz + d := ⟨j - n * sz, by omega⟩
        rw [Nat.mul_comm, Nat.mul_add_mod, Nat.mod_eq_of_lt (by omega)]
        omega
      rw [e]

theorem own_below {w w' : World} {base size n : Nat} {e : TypeId} {v : Value} {xs : List Value} (h : w.ownsRow base e size v n xs) (hb : Below w.heap.size w w') : w'.ownsRow base e size v n xs := by
  refine ⟨h.1, ?_⟩
  rcases h.2 with hn | ⟨g, cap, cur, rfl, hb', hg, r⟩
  · exact .inl hn
  · exact .inr ⟨g, cap, cur, rfl, hb', (hb.block g (lt_of_block hg)).trans hg, r⟩
theorem own_kept {F : Nat → Prop} {w w' : World} {base size n : Nat} {e : TypeId} {v : Value} {xs : List Value} (h : w.ownsRow base e size v n xs) (hk : Kept F w w') (hF : ∀ k, v.ownBlock = some k → ¬ F k) : w'.ownsRow base e size v n xs := by
  refine ⟨h.1, ?_⟩
  rcases h.2 with hn | ⟨g, cap, cur, rfl, hb', hg, r⟩
  · exact .inl hn
  · exact .inr ⟨g, cap, cur, rfl, hb', (hk.block g (lt_of_block hg) (hF g rfl)).trans hg, r⟩
theorem own_mono {w : World} {base base' size n : Nat} {e : TypeId} {v : Value} {xs : List Value} (h : w.ownsRow base e size v n xs) (hb : base' ≤ base) : w.ownsRow base' e size v n xs := by
  refine ⟨h.1, ?_⟩
  rcases h.2 with hn | ⟨g, cap, cur, rfl, hb', r⟩
  · exact .inl hn
  · exact .inr ⟨g, cap, cur, rfl, Nat.le_trans hb hb', r⟩
/-- Rows of unlike element types lie in unlike blocks. -/
theorem own_ne {w : World} {base base' size size' n n' : Nat} {e e' : TypeId} {v v' : Value} {xs xs' : List Value} (h : w.ownsRow base e size v n xs) (h' : w.ownsRow base' e' size' v' n' xs') (hne : e ≠ e') : ∀ k, v.ownBlock = some k → ¬ v'.ownBlock = some k := fun k h3 h4 => by
  rcases h.2 with ⟨rfl, _⟩ | ⟨g, cap, cur, rfl, _, hg, _⟩
  · cases h3
  · rcases h'.2 with ⟨rfl, _⟩ | ⟨g', cap', cur', rfl, _, hg', _⟩
    · cases h4
    · cases h3
      cases h4
      rw [hg] at hg'
      simp at hg'
      exact hne hg'.2
theorem kept_of_grown {w w' : World} {r : Option Nat} (h : w.grownBy w' r) : Kept (fun k => r = some k) w w' := (Kept.refl _ _).grown h (fun _ hk => hk)
theorem below_of_grown {w w' : World} (h : w.grownBy w' none) : Below w.heap.size w w' := (Below.refl _ _).grown h (Nat.le_refl _) (fun k hk => by cases hk)

/-- What an append has done: in its place, or nothing turned and all new. -/
def AppAt (w w' : World) (v v' : Value) : Prop := (∃ g, v.ownBlock = some g ∧ v'.ownBlock = some g ∧ w.grownBy w' (some g)) ∨ (w.grownBy w' none ∧ ∀ k, v'.ownBlock = some k → w.heap.size ≤ k)
theorem wpList_append_view {P : Program} {w : World} {ops : Array Oper} {rest : List Oper} {o : Oper} {a : Act} {Q : Exit → Act → World → Prop} (hgd : o.guard = none) (s x : Operand) (t : TypeId)
    (ho : o.op = .call { callee := .builtin .append, args := #[s, x], argTypes := #[t, t] })
    (base : Nat) (e : TypeId) (i : TypeInfo) (z : Value) (size bytes : Nat) (ht : P.underlying t = some (.slice e)) (hi : P.info? e = some i) (hz : i.zero = some z)
    (hsize : i.size = size) (hby : i.bytes = bytes) (hzs : z.cells.size = size) (hsz : 0 < size)
    (v : Value) (n : Nat) (xs : List Value) (hs : a.eval s = v) (hown : w.ownsRow base e size v n xs)
    (ad : Addr) (m c : Nat) (news : List Value) (hx : a.eval x = .slice (some ad) m c) (hl : news.length = m * size) (hnews : ∀ j u, news[j]? = some u → w.cell? (ad.add j) = some u) (h1 : ∀ u ∈ news, u.oneCell' = true)
    (hm : 0 < m) (h63 : n + m ≤ maxLen) (hbytes : (n + m) * bytes ≤ 140737488355328) (hbase : base ≤ w.heap.size)
    (h : ∀ v' w', w'.ownsRow base e size v' (n + m) (xs ++ news) → AppAt w w' v v' → wpList P ops Q rest (a.put o.dst v') w') :
    wpList P ops Q (o :: rest) a w := by
  rcases hown.2 with ⟨rfl, rfl⟩ | ⟨g, cap, cur, rfl, hb, hg, hnc, hcm, hcs, htake⟩
  · have hx0 : xs = [] := List.eq_nil_of_length_eq_zero (by simpa using hown.1)
    subst hx0
    refine wpList_append_grows w hgd s x t ho e i z size bytes ht hi hz hsize hby hzs hsz none 0 0 [] hs (fun _ => ⟨rfl, rfl⟩) (by simp) (fun b hb => by cases hb) ad m c news hx hl hnews h1 (by omega) h63 hbytes ?_
    intro v' w' r1 r2
    exact h v' w' (own_mono r1 hbase) (.inr ⟨r2, fun k hk => (World.ownsRow.lt r1 k hk).1⟩)
  · by_cases hr : n + m ≤ cap
    · refine wpList_append_fits w hgd s x t ho base e i size ht hi hsize g n cap xs hs hown ad m c news hx hl hnews h1 hr ?_
      intro w' r1 r2
      exact h _ w' r1 (.inl ⟨g, rfl, rfl, r2⟩)
    · refine wpList_append_grows w hgd s x t ho e i z size bytes ht hi hz hsize hby hzs hsz (some ⟨g, 0, none⟩) n cap xs hs (fun h => by cases h) hown.1 (fun b hb => by cases hb; exact hown.cells (g := g) rfl) ad m c news hx hl hnews h1 (by omega) h63 hbytes ?_
      intro v' w' r1 r2
      exact h v' w' (own_mono r1 hbase) (.inr ⟨r2, fun k hk => (World.ownsRow.lt r1 k hk).1⟩)

/-- A view that reads n marks. -/
structure Vw (T : TypeId) (sz : Nat) (mc : Nat → List Value) (w : World) (v : Value) (n i : Nat) : Prop where
  shape : ∃ ao cap, v = .slice ao n cap ∧ (n = 0 ∨ ∃ g, ao = some ⟨g, 0, none⟩ ∧ ∀ j, j < n * sz → w.cell? ⟨g, j, none⟩ = (mc i)[j % sz]?)
  ty : ∀ k, v.ownBlock = some k → ∃ cs, w.heap[k]? = some (.cells cs T (0, 0))
  le : n ≤ maxLen
theorem Vw.lt {T : TypeId} {sz : Nat} {mc : Nat → List Value} {w : World} {v : Value} {n i : Nat} (h : Vw T sz mc w v n i) (k : Nat) (hk : v.ownBlock = some k) : k < w.heap.size := by
  obtain ⟨cs, h⟩ := h.ty k hk
  exact lt_of_block h
theorem Vw.kept {T : TypeId} {sz : Nat} {mc : Nat → List Value} {F : Nat → Prop} {w w' : World} {v : Value} {n i : Nat} (h : Vw T sz mc w v n i) (hk : Kept F w w') (hF : ∀ k, v.ownBlock = some k → ¬ F k) : Vw T sz mc w' v n i := by
  refine ⟨?_, fun k hb => ?_, h.le⟩
  · obtain ⟨ao, cap, rfl, h0 | ⟨g, rfl, hc⟩⟩ := h.shape
    · exact ⟨ao, cap, rfl, .inl h0⟩
    · exact ⟨_, cap, rfl, .inr ⟨g, rfl, fun j hj => (hk.cell (p := ⟨g, j, none⟩) (h.lt g rfl) (hF g rfl)).trans (hc j hj)⟩⟩
  · obtain ⟨cs, h3⟩ := h.ty k hb
    exact ⟨cs, (hk.block k (lt_of_block h3) (hF k hb)).trans h3⟩
theorem Vw.below {T : TypeId} {sz : Nat} {mc : Nat → List Value} {w w' : World} {v : Value} {n i : Nat} (h : Vw T sz mc w v n i) (hb : Below w.heap.size w w') : Vw T sz mc w' v n i :=
  h.kept (F := fun _ => False) (Kept.of_below hb) (fun _ _ h => h)
theorem own_ty {w : World} {base size n : Nat} {e : TypeId} {v : Value} {xs : List Value} (h : w.ownsRow base e size v n xs) (k : Nat) (hk : v.ownBlock = some k) : ∃ cs, w.heap[k]? = some (.cells cs e (0, 0)) := by
  rcases h.2 with ⟨rfl, hn⟩ | ⟨g, cap, cur, rfl, hb, hg, r⟩
  · cases hk
  · cases hk
    exact ⟨cur, hg⟩
theorem own_le {w : World} {base size n : Nat} {e : TypeId} {v : Value} {xs : List Value} (h : w.ownsRow base e size v n xs) : n ≤ maxLen := by
  rcases h.2 with ⟨rfl, hn⟩ | ⟨g, cap, cur, rfl, hb, hg, h1, h2, _⟩
  · rw [hn]; exact Nat.zero_le _
  · exact Nat.le_trans h1 h2
theorem Vw.of_own {T : TypeId} {sz : Nat} {mc : Nat → List Value} (hmc : ∀ i, (mc i).length = sz) {w : World} {base n i : Nat} {v : Value} (h : w.ownsRow base T sz v n (rep mc i n)) : Vw T sz mc w v n i := by
  refine ⟨?_, own_ty h, own_le h⟩
  rcases h.2 with ⟨rfl, hn⟩ | ⟨g, cap, cur, rfl, hb, hg, r⟩
  · exact ⟨none, 0, by rw [hn], .inl hn⟩
  · exact ⟨_, cap, rfl, .inr ⟨g, rfl, fun j hj => by rw [World.ownsRow.cellAt h j hj, rep_get hmc i n j hj]⟩⟩
/-- A shorter view of what is owned. -/
theorem Vw.short {T : TypeId} {sz : Nat} {mc : Nat → List Value} (hmc : ∀ i, (mc i).length = sz) {w w0 : World} {base n m i g : Nat} {v x : Value} (hv : Vw T sz mc w0 v n i) (hg : v.ownBlock = some g) (hx : x.ownBlock = some g) (h : w.ownsRow base T sz x m (rep mc i m)) (hn : n ≤ m) : Vw T sz mc w v n i := by
  refine ⟨?_, fun k hk => own_ty h k (by rw [hx]; rw [hg] at hk; exact hk), hv.le⟩
  obtain ⟨ao, cap, rfl, h0 | ⟨g', rfl, _⟩⟩ := hv.shape
  · exact ⟨ao, cap, rfl, .inl h0⟩
  · obtain rfl : g' = g := Option.some.inj hg
    rcases h.2 with ⟨rfl, _⟩ | ⟨g2, cap2, cur, rfl, _, _, _⟩
    · cases hx
    · obtain rfl : g2 = g' := Option.some.inj hx
      refine ⟨_, cap, rfl, .inr ⟨g2, rfl, fun j hj => ?_⟩⟩
      have hj2 : j < m * sz := Nat.lt_of_lt_of_le hj (Nat.mul_le_mul_right sz hn)
      rw [World.ownsRow.cellAt h j hj2, rep_get hmc i m j hj2]

/-- What is owned is a slice. -/
theorem own_shape {w : World} {base size n : Nat} {e : TypeId} {v : Value} {xs : List Value} (h : w.ownsRow base e size v n xs) : ∃ ao cap, v = .slice ao n cap ∧ (0 < n → ∃ g, ao = some ⟨g, 0, none⟩) := by
  rcases h.2 with ⟨rfl, hn⟩ | ⟨g, cap, cur, rfl, hb, hg, r⟩
  · exact ⟨none, 0, by rw [hn], fun h => by omega⟩
  · exact ⟨_, cap, rfl, fun _ => ⟨g, rfl⟩⟩
/-- A row's cell. -/
theorem own_cell1 {w : World} {base n : Nat} {e : TypeId} {v : Value} {D : List LD} (h : w.ownsRow base e 1 v n (D.map LD.v)) {g cap : Nat} (hv : v = .slice (some ⟨g, 0, none⟩) n cap) {i : Nat} (hi : i < D.length) (hn : n = D.length) : w.cell? ⟨g, i, none⟩ = some (D[i]).v := by
  subst hv hn
  rw [World.ownsRow.cellAt h i (by omega)]
  simp [hi]

/-- Some list from the i-th on lies there. -/
def FutL (D : List LD) (i k : Nat) : Prop := ∃ i', ∃ h : i' < D.length, i ≤ i' ∧ (D[i']).v.ownBlock = some k
def ApartL (D : List LD) : Prop := D.Pairwise (fun d e => ∀ k, d.v.ownBlock = some k → ¬ e.v.ownBlock = some k)
theorem ApartL.ne {D : List LD} (h : ApartL D) {i j k : Nat} (hi : i < D.length) (hj : j < D.length) (hne : i ≠ j) (h1 : (D[i]).v.ownBlock = some k) : ¬ (D[j]).v.ownBlock = some k := fun h2 => by
  have hp := List.pairwise_iff_getElem.1 h
  rcases Nat.lt_or_gt_of_ne hne with h3 | h3
  · exact hp i j hi hj h3 k h1 h2
  · exact hp j i hj hi h3 k h2 h1

section
variable {TS T : TypeId} {sz : Nat} {mc : Nat → List Value}

/-- The lists as they lie, X i the cells of the i-th. -/
structure LsAt (TS T : TypeId) (sz : Nat) (w : World) (base : Nat) (l : Value) (D : List LD) (X : Nat → List Value) : Prop where
  row : w.ownsRow base TS 1 l D.length (D.map LD.v)
  each : ∀ i (h : i < D.length), w.ownsRow base T sz (D[i]).v (D[i]).n (X i)
  apart : ApartL D
theorem LsAt.below {w w' : World} {base : Nat} {l : Value} {D : List LD} {X : Nat → List Value} (h : LsAt TS T sz w base l D X) (hb : Below w.heap.size w w') : LsAt TS T sz w' base l D X :=
  ⟨own_below h.row hb, fun i hi => own_below (h.each i hi) hb, h.apart⟩
/-- One list turned. -/
theorem LsAt.turned (hne : TS ≠ T) {w w' : World} {base : Nat} {l : Value} {D : List LD} {X : Nat → List Value} (h : LsAt TS T sz w base l D X) {i : Nat} (hi : i < D.length) {xs : List Value} (h1 : w'.ownsRow base T sz (D[i]).v (D[i]).n xs) (hk : Kept (fun k => (D[i]).v.ownBlock = some k) w w') :
    LsAt TS T sz w' base l D (fun j => if j = i then xs else X j) := by
  refine ⟨own_kept h.row hk (fun k h3 h4 => own_ne h.row (h.each i hi) hne k h3 h4), fun j hj => ?_, h.apart⟩
  by_cases hji : j = i
  · subst hji
    simp only [if_true]
    exact h1
  · simp only [hji, if_false]
    exact own_kept (h.each j hj) hk (fun k h3 h4 => h.apart.ne hj hi hji h3 h4)

/-- Between two lists: i have been grown, and looked at six times each. -/
structure GrO (TS T : TypeId) (sz : Nat) (mc : Nat → List Value) (w : World) (base : Nat) (l o : Value) (D : List LD) (A : List LD) (i : Nat) : Prop where
  row : w.ownsRow base TS 1 l D.length (D.map LD.v)
  all : w.ownsRow base TS 1 o A.length (A.map LD.v)
  ol : ∀ k, o.ownBlock = some k → ¬ l.ownBlock = some k
  len : A.length = 6 * i
  views : ∀ j (hj : j < A.length), Vw T sz mc w (A[j]).v (A[j]).n (j / 6) ∧ ∀ k, (A[j]).v.ownBlock = some k → ¬ FutL D i k
  lists : ∀ i' (h : i' < D.length), i ≤ i' → w.ownsRow base T sz (D[i']).v (D[i']).n (rep mc i' (D[i']).n)
  apart : ApartL D
/-- Within the i-th: x is what it has grown to. -/
structure Gr (TS T : TypeId) (sz : Nat) (mc : Nat → List Value) (w : World) (base : Nat) (l o : Value) (D : List LD) (A : List LD) (i q : Nat) (x : Value) (nx : Nat) : Prop where
  row : w.ownsRow base TS 1 l D.length (D.map LD.v)
  all : w.ownsRow base TS 1 o A.length (A.map LD.v)
  ol : ∀ k, o.ownBlock = some k → ¬ l.ownBlock = some k
  len : A.length = 6 * i + q
  views : ∀ j (hj : j < A.length), Vw T sz mc w (A[j]).v (A[j]).n (j / 6) ∧ ∀ k, (A[j]).v.ownBlock = some k → ¬ FutL D (i + 1) k ∧ (x.ownBlock = some k → j / 6 = i ∧ (A[j]).n ≤ nx)
  own : w.ownsRow base T sz x nx (rep mc i nx)
  xf : ∀ k, x.ownBlock = some k → ¬ FutL D (i + 1) k
  lists : ∀ i' (h : i' < D.length), i + 1 ≤ i' → w.ownsRow base T sz (D[i']).v (D[i']).n (rep mc i' (D[i']).n)
  apart : ApartL D

theorem GrO.below {w w' : World} {base : Nat} {l o : Value} {D A : List LD} {i : Nat} (h : GrO TS T sz mc w base l o D A i) (hb : Below w.heap.size w w') : GrO TS T sz mc w' base l o D A i :=
  ⟨own_below h.row hb, own_below h.all hb, h.ol, h.len, fun j hj => ⟨(h.views j hj).1.below hb, (h.views j hj).2⟩, fun i' h1 h2 => own_below (h.lists i' h1 h2) hb, h.apart⟩
theorem Gr.below {w w' : World} {base : Nat} {l o : Value} {D A : List LD} {i q : Nat} {x : Value} {nx : Nat} (h : Gr TS T sz mc w base l o D A i q x nx) (hb : Below w.heap.size w w') : Gr TS T sz mc w' base l o D A i q x nx :=
  ⟨own_below h.row hb, own_below h.all hb, h.ol, h.len, fun j hj => ⟨(h.views j hj).1.below hb, (h.views j hj).2⟩, own_below h.own hb, h.xf, fun i' h1 h2 => own_below (h.lists i' h1 h2) hb, h.apart⟩
theorem GrO.start {w : World} {base : Nat} {l : Value} {D : List LD} (h : LsAt TS T sz w base l D (fun i => rep mc i ((D[i]?.map LD.n).getD 0))) : GrO TS T sz mc w base l (.slice none 0 0) D [] 0 :=
  ⟨h.row, World.ownsRow_nil w base TS 1, fun k hk => (by cases hk), rfl, fun j hj => (by simp at hj), fun i' h1 _ => by have := h.each i' h1; simpa [h1] using this, h.apart⟩
theorem GrO.enter {w : World} {base : Nat} {l o : Value} {D A : List LD} {i : Nat} (h : GrO TS T sz mc w base l o D A i) (hi : i < D.length) : Gr TS T sz mc w base l o D A i 0 (D[i]).v (D[i]).n := by
  refine ⟨h.row, h.all, h.ol, h.len, fun j hj => ⟨(h.views j hj).1, fun k hk => ⟨fun ⟨i', h1, h2, h3⟩ => (h.views j hj).2 k hk ⟨i', h1, by omega, h3⟩, fun hx => ?_⟩⟩, h.lists i hi (Nat.le_refl _), fun k hk => ?_, fun i' h1 h2 => h.lists i' h1 (by omega), h.apart⟩
  · exact absurd ⟨i, hi, Nat.le_refl _, hx⟩ ((h.views j hj).2 k hk)
  · rintro ⟨i', h1, h2, h3⟩
    exact h.apart.ne hi h1 (by omega) hk h3
theorem Gr.leave {w : World} {base : Nat} {l o : Value} {D A : List LD} {i : Nat} {x : Value} {nx : Nat} (h : Gr TS T sz mc w base l o D A i 6 x nx) : GrO TS T sz mc w base l o D A (i + 1) :=
  ⟨h.row, h.all, h.ol, by have := h.len; omega, fun j hj => ⟨(h.views j hj).1, fun k hk => ((h.views j hj).2 k hk).1⟩, h.lists, h.apart⟩
/-- all = append(all, x) -/
theorem Gr.push (hmc : ∀ i, (mc i).length = sz) (hne : TS ≠ T) {w w' : World} {base : Nat} {l o o' : Value} {D A : List LD} {i q : Nat} {x : Value} {nx : Nat} (h : Gr TS T sz mc w base l o D A i q x nx) (hq : q < 6)
    (h1 : w'.ownsRow base TS 1 o' (A.length + 1) (A.map LD.v ++ [x])) (h2 : AppAt w w' o o') : Gr TS T sz mc w' base l o' D (A ++ [⟨x, nx⟩]) i (q + 1) x nx := by
  have hk : ∃ F : Nat → Prop, Kept F w w' ∧ (∀ k, F k → o.ownBlock = some k) := by
    rcases h2 with ⟨g, a, b, c⟩ | ⟨a, b⟩
    · exact ⟨fun k => some g = some k, kept_of_grown c, fun k hk => a.trans hk⟩
    · exact ⟨fun _ => False, Kept.of_below (below_of_grown a), fun k hk => hk.elim⟩
  obtain ⟨F, hk, hF⟩ := hk
  refine ⟨own_kept h.row hk (fun k h3 h4 => h.ol k (hF k h4) h3), by rw [List.map_append, List.length_append]; exact h1, ?_, by rw [List.length_append, h.len]; rfl, ?_, own_kept h.own hk (fun k h3 h4 => own_ne h.all h.own hne k (hF k h4) h3), h.xf, fun i' h3 h4 => own_kept (h.lists i' h3 h4) hk (fun k h5 h6 => own_ne h.all (h.lists i' h3 h4) hne k (hF k h6) h5), h.apart⟩
  · intro k hk'
    rcases h2 with ⟨g, a, b, c⟩ | ⟨a, b⟩
    · rw [b] at hk'
      exact h.ol k (a.trans hk')
    · intro hl
      have := b k hk'
      have := (World.ownsRow.lt h.row k hl).2
      omega
  · intro j hj
    by_cases hja : j < A.length
    · rw [List.getElem_append_left hja]
      obtain ⟨v1, v2⟩ := h.views j hja
      refine ⟨v1.kept hk (fun k h3 h4 => ?_), v2⟩
      obtain ⟨cs, h5⟩ := v1.ty k h3
      obtain ⟨cs', h6⟩ := own_ty h.all k (hF k h4)
      rw [h5] at h6
      simp at h6
      exact hne h6.2.symm
    · have hje : j = A.length := by rw [List.length_append] at hj; simp at hj; omega
      subst hje
      rw [List.getElem_append_right (Nat.le_refl _)]
      simp only [Nat.sub_self, List.getElem_cons_zero]
      rw [h.len, show (6 * i + q) / 6 = i by omega]
      exact ⟨(Vw.of_own hmc h.own).kept hk (fun k h3 h4 => own_ne h.all h.own hne k (hF k h4) h3), fun k hk => ⟨h.xf k hk, fun _ => ⟨rfl, Nat.le_refl _⟩⟩⟩
/-- x = append(x, a mark) -/
theorem Gr.grow (hmc : ∀ i, (mc i).length = sz) (hne : TS ≠ T) {w w' : World} {base : Nat} {l o : Value} {D A : List LD} {i q : Nat} {x x' : Value} {nx : Nat} (h : Gr TS T sz mc w base l o D A i q x nx)
    (h1 : w'.ownsRow base T sz x' (nx + 1) (rep mc i nx ++ mc i)) (h2 : AppAt w w' x x') : Gr TS T sz mc w' base l o D A i q x' (nx + 1) := by
  rw [← rep_succ] at h1
  rcases h2 with ⟨g, a, b, c⟩ | ⟨a, b⟩
  · have hk := kept_of_grown c
    refine ⟨own_kept h.row hk (fun k h3 h4 => ?_), own_kept h.all hk (fun k h3 h4 => ?_), h.ol, h.len, fun j hj => ?_, h1, fun k hk' => h.xf k (by rw [a]; rw [b] at hk'; exact hk'), fun i' h3 h4 => own_kept (h.lists i' h3 h4) hk (fun k h5 h6 => ?_), h.apart⟩
    · cases h4
      exact own_ne h.row h.own hne g h3 a
    · cases h4
      exact own_ne h.all h.own hne g h3 a
    · obtain ⟨v1, v2⟩ := h.views j hj
      refine ⟨?_, fun k hk' => ⟨(v2 k hk').1, fun hx => ?_⟩⟩
      · by_cases hb : (A[j]).v.ownBlock = some g
        · obtain ⟨e1, e2⟩ := (v2 g hb).2 a
          rw [e1] at v1 ⊢
          exact v1.short hmc hb b h1 (by omega)
        · exact v1.kept hk (fun k h3 h4 => hb (h3.trans h4.symm))
      · have := (v2 k hk').2 (by rw [a]; rw [b] at hx; exact hx)
        exact ⟨this.1, by omega⟩
    · cases h6
      exact h.xf g a ⟨i', h3, h4, h5⟩
  · have hb := below_of_grown a
    refine ⟨own_below h.row hb, own_below h.all hb, h.ol, h.len, fun j hj => ?_, h1, fun k hk => ?_, fun i' h3 h4 => own_below (h.lists i' h3 h4) hb, h.apart⟩
    · obtain ⟨v1, v2⟩ := h.views j hj
      refine ⟨v1.below hb, fun k hk' => ⟨(v2 k hk').1, fun hx => ?_⟩⟩
      have := v1.lt k hk'
      have := b k hx
      omega
    · rintro ⟨i', h3, h4, h5⟩
      have := (World.ownsRow.lt (h.lists i' h3 h4) k h5).2
      have := b k hk
      omega
end
end Go.Proofs.YtdgoilkgplnhfaaGreat
