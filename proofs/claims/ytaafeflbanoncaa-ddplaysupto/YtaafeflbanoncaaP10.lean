/-
  The program's Back by its contract. No condition.
-/
import Derived.Test.YtaafeflbanoncaaP09
namespace Go.Proofs.Ytaafeflbanoncaa
open Go.RowKit Go.Lib Go.Maps

theorem own_setCells {base size g n cap : Nat} {e : TypeId} : ∀ (vs : List Value) (o : Nat) (w : World) (xs : List Value), w.ownsRow base e size (.slice (some ⟨g, 0, none⟩) n cap) n xs → ∃ ys, (w.setCells g o vs).ownsRow base e size (.slice (some ⟨g, 0, none⟩) n cap) n ys ∧ ys.take o = xs.take o ∧ Kept (fun k => k = g) w (w.setCells g o vs)
  | [], _, w, xs, h => ⟨xs, h, rfl, Kept.refl _ _⟩
  | v :: vs, o, w, xs, h => by
    obtain ⟨h1, h2⟩ := h.stored o v
    obtain ⟨ys, g1, g2, g3⟩ := own_setCells vs (o + 1) (w.setCell ⟨g, o, none⟩ v) _ h1
    refine ⟨ys, g1, ?_, ((kept_of_grown h2).mono (fun k hk => by injection hk with hk; exact hk.symm)).trans g3⟩
    have := congrArg (List.take o) g2
    rw [List.take_take, List.take_take, Nat.min_eq_left (by omega)] at this
    rw [this]
    apply List.ext_getElem?
    intro i
    by_cases hi : i < o
    · rw [List.getElem?_take_of_lt hi, List.getElem?_take_of_lt hi, List.getElem?_set_ne (by omega)]
    · rw [List.getElem?_eq_none (by rw [List.length_take]; omega), List.getElem?_eq_none (by rw [List.length_take]; omega)]
theorem own_take {w : World} {base size g n cap k : Nat} {e : TypeId} {xs : List Value} (h : w.ownsRow base e size (.slice (some ⟨g, 0, none⟩) n cap) n xs) (hk : k ≤ n) : w.ownsRow base e size (.slice (some ⟨g, 0, none⟩) k cap) k (xs.take (k * size)) := by
  have hkm : k * size ≤ n * size := Nat.mul_le_mul_right _ hk
  refine ⟨by rw [List.length_take, h.1]; omega, ?_⟩
  rcases h.2 with ⟨e, _⟩ | ⟨g', cap', cur, e, hb, hg, h1, h2, h3, h4⟩
  · cases e
  · injection e with e1 e2 e3
    injection e1 with e1; injection e1 with e1
    subst e1 e3
    refine .inr ⟨g, cap, cur, rfl, hb, hg, by omega, h2, h3, ?_⟩
    rw [← h4, List.take_take, Nat.min_eq_left hkm]
/-- 'clear(s)' of elements of whatever size. -/
theorem run_clear_wide {P : Program} (w : World) (t e ty : TypeId) (z : Value) (ht : P.underlying t = some (.slice e)) (hv : ∀ w, (zeroValue e).run P w = .ok z w) (b o n c : Nat) (hn : 0 < n) (h1 : ∀ v ∈ (Builtin.zeroCells z.cells n).toList, v.oneCell' = true)
    (hc : ∀ j, j < n * z.cells.size → (w.cell? ⟨b, o + j, none⟩).isSome = true) (hf : ∀ j, j < n * z.cells.size → w.frozen? ⟨b, o + j, none⟩ = false) :
    (Builtin.clear_ #[t] ty #[.slice (some ⟨b, o, none⟩) n c]).run P w = .ok (.tuple #[]) (w.setCells b o (Builtin.zeroCells z.cells n).toList) := by
  have hl : (Builtin.zeroCells z.cells n).toList.length = n * z.cells.size := by simp [Builtin.zeroCells]
  have hst := run_storeCells_cells (P := P) b o (Builtin.zeroCells z.cells n).toList 0 w (by rw [hl]; simpa using hc) (by rw [hl]; simpa using hf) h1
  simp only [Nat.add_zero] at hst
  obtain ⟨m, rfl⟩ : ∃ m, n = m + 1 := ⟨n - 1, by omega⟩
  simp [Builtin.clear_, run_underlying ht, hv, hst]
theorem zero47_one (n : Nat) : ∀ v ∈ (Builtin.zeroCells (Value.agg #[.int .i64 0, .slice none 0 0]).cells n).toList, v.oneCell' = true := fun v hv => by
  simp only [Builtin.zeroCells, Array.toList_map, List.mem_map] at hv
  obtain ⟨i, _, rfl⟩ := hv
  have h2 : (Value.agg #[.int .i64 0, .slice none 0 0]).cells = #[.int .i64 0, .slice none 0 0] := rfl
  rw [h2]
  have : i % 2 = 0 ∨ i % 2 = 1 := by omega
  rcases this with h | h <;> simp [h, Value.oneCell']
/-- Keys that go. -/
theorem MpAt.drop {w' : World} {b m : Nat} {A B : List Lit} {kl : Lit} {D : DataW Unit} (hn : kl ∉ A) (hn2 : kl ∉ B) (hh : ∀ x, Maps.has D x = true ↔ x ∈ A ∨ x ∈ kl :: B) (ha : ∀ i (h : i < A.length), D.atKey A[i] (.lit (.int .i64 0)) = .lit (.int .i64 ((i : Int) + 2)))
    (h1 : w'.ownsMap Try.prog 9 (plainElem Try.prog 3) b m (D.del kl)) : MpAt w' b m A B := by
  refine ⟨_, h1, fun x => ?_, fun i hi => ?_⟩
  · by_cases hx : x = kl
    · subst hx
      rw [Maps.has_del_same]
      simp [hn, hn2]
    · rw [Maps.has_del_other hx, hh x]
      simp [hx]
  · rw [Maps.atKey_del_other (fun e => hn (by rw [← e]; exact List.getElem_mem hi))]
    exact ha i hi
theorem MpAt.part {w : World} {b m : Nat} {A : List Lit} (h : MpAt w b m A []) (n : Nat) : MpAt w b m (A.take n) (A.drop n) := by
  obtain ⟨D, h1, h2, h3⟩ := h
  refine ⟨D, h1, fun kl => ?_, fun i hi => ?_⟩
  · rw [h2 kl, ← List.mem_append, ← List.mem_append, List.take_append_drop, List.append_nil]
  · rw [List.length_take] at hi
    rw [List.getElem_take]
    exact h3 i (by omega)
section
variable {w : World} {a : Nat} {S : List Int} {M : Int} {R : List ND} {N : List Nd} {m : Nat} {P : Nat → Prop} {sb sc mb : Nat} {nv : Value}
/-- No two nodes have one key. -/
theorem own_cap {w : World} {base size n cap : Nat} {a : Addr} {e : TypeId} {xs : List Value} (h : w.ownsRow base e size (.slice (some a) n cap) n xs) : n ≤ cap := by
  rcases h.2 with ⟨e, _⟩ | ⟨g', cap', cur, e, hb, hg, h1, _⟩
  · cases e
  · injection e with _ _ e3
    omega
theorem own_cap' {w : World} {base size n cap : Nat} {ao : Option Addr} {e : TypeId} {xs : List Value} (h : w.ownsRow base e size (.slice ao n cap) n xs) : n ≤ cap := by
  rcases h.2 with ⟨e, _⟩ | ⟨g', cap', cur, e, hb, hg, h1, _⟩
  · injection e with _ e2 e3; omega
  · injection e with _ _ e3
    omega
theorem own_take' {w : World} {base size n cap k : Nat} {ao : Option Addr} {e : TypeId} {xs : List Value} (h : w.ownsRow base e size (.slice ao n cap) n xs) (hk : k ≤ n) : w.ownsRow base e size (.slice ao k cap) k (xs.take (k * size)) := by
  rcases h.2 with ⟨e, e2⟩ | ⟨g', cap', cur, e, _⟩
  · injection e with e1 e3 e4
    subst e1 e4
    obtain rfl : k = 0 := by omega
    exact ⟨by simp, .inl ⟨rfl, rfl⟩⟩
  · injection e with e1 _ _
    subst e1
    exact own_take h hk
theorem CAx.keys (h : CAx w a S M R m P sb sc nv mb) : (R.map fun x => keyL x.nd).Nodup := by
  rw [List.nodup_iff_pairwise_ne, List.pairwise_map, List.pairwise_iff_getElem]
  intro i j hi hj hij e
  have hm1 := h.ok.may (i := i) (by rw [List.length_map]; exact hi)
  have hm2 := h.ok.may (i := j) (by rw [List.length_map]; exact hj)
  rw [List.getElem_map] at hm1 hm2
  unfold keyL at e
  injection e with e
  have e2 := h.ok.key_inj hm1 hm2 e
  have hp := List.pairwise_iff_getElem.1 h.ok.nod i j (by rw [List.length_map]; exact hi) (by rw [List.length_map]; exact hj) hij
  rw [List.getElem_map, List.getElem_map] at hp
  exact hp e2
/-- What Back leaves. -/
def BkL (N : List Nd) (n : Int) (w : World) (e : Ending) (w' : World) (L : List Nd → World → Prop) (P : Nat → Prop) : Prop :=
  (0 ≤ n ∧ n ≤ (N.length : Int) ∧ e = .returned (.int .i64 0) ∧ L (N.take n.toNat) w' ∧ Kept P w w') ∨ (¬ (0 ≤ n ∧ n ≤ (N.length : Int)) ∧ e = .returned (.int .i64 1) ∧ Below w.heap.size w w')
/-- The nodes that stay. -/
theorem CAx.cut (h : CAx w a S M R m P sb sc nv mb) {n : Nat} {w1 w2 : World} (k1 : Kept (fun k => k = mb) w w1) (hm : MpAt w1 mb m ((R.map fun x => keyL x.nd).take n) []) (k2 : Kept (fun k => nv.ownBlock = some k) w1 w2) {nv' : Value} (hr : w2.ownsRow 0 58 2 nv' (min n R.length) ((ndC R).take (n * 2))) (hn : ∀ k, nv'.ownBlock = some k → nv.ownBlock = some k) :
    CA (w2.setCell ⟨a, 2, none⟩ nv') a S M ((R.map ND.nd).take n) m P ∧ Kept P w (w2.setCell ⟨a, 2, none⟩ nv') := by
  have k3 : Kept (fun k => k = a) w2 (w2.setCell ⟨a, 2, none⟩ nv') := Kept.setCell (F := fun k => k = a) (p := ⟨a, 2, none⟩) (Kept.refl _ _) rfl _
  obtain ⟨es, cl, hmb⟩ := h.map.blk
  have ham : a ≠ mb := fun e => by subst e; rw [h.blk] at hmb; cases hmb
  have hna : ¬ nv.ownBlock = some a := fun hF => by
    obtain ⟨cs, h5⟩ := own_ty h.row _ hF
    rw [h.blk] at h5
    simp at h5
  have kk : Kept (fun k => k = mb ∨ nv.ownBlock = some k ∨ k = a) w (w2.setCell ⟨a, 2, none⟩ nv') := ((k1.mono (fun _ h => .inl h)).trans (k2.mono (fun _ h => .inr (.inl h)))).trans (k3.mono (fun _ h => .inr (.inr h)))
  have zk : ∀ {b : Nat} {L : List Int}, ZBk w b L → ZBk (w2.setCell ⟨a, 2, none⟩ nv') b L := fun hz => hz.kept kk (fun hF => by
    rcases hF with hF | hF | hF
    · exact hz.ne_map hmb hF
    · obtain ⟨cs, h5⟩ := own_ty h.row _ hF
      exact hz.ne h5 (by decide) rfl
    · exact hz.ne h.blk (by decide) hF)
  have hb1 := (k1.block a (lt_of_block h.blk) ham).trans h.blk
  have hb2 := (k2.block a (lt_of_block hb1) hna).trans hb1
  have hb3 : (w2.setCell ⟨a, 2, none⟩ nv').heap[a]? = some (.cells #[.slice (some ⟨sb, 0, none⟩) S.length sc, .int .i64 M, nv', .map (some mb)] 76 (0, 0)) := by
    have := block_setCell hb2 2 nv'
    simpa using this
  have hm2 := (hm.kept k2 (own_ne_map h.map h.row)).kept k3 (fun e => ham e.symm)
  have hr3 : (w2.setCell ⟨a, 2, none⟩ nv').ownsRow 0 58 2 nv' (R.take n).length (ndC (R.take n)) := by
    rw [ndC_take, List.length_take]
    exact own_kept hr k3 (fun k hk e => hna (by rw [← e]; exact hn k hk))
  refine ⟨⟨R.take n, sb, sc, nv', mb, ⟨hb3, zk h.sz, hr3, fun x hx => zk (h.kid x (List.mem_of_mem_take hx)), by rw [List.map_take]; exact hm2, h.pa, h.ps, fun k hk => h.pn k (hn k hk), h.pm, fun x hx => h.pk x (List.mem_of_mem_take hx), fun k hk => Nat.lt_of_lt_of_le (h.plt k hk) kk.size, by rw [List.map_take]; exact h.ok.take n⟩, List.map_take⟩, kk.mono (fun k hk => ?_)⟩
  rcases hk with hk | hk | hk
  · rw [hk]; exact h.pm
  · exact h.pn k hk
  · rw [hk]; exact h.pa
/-- What is over is wiped. -/
theorem clear_any {w : World} {ao ov : Option Addr} {n q cap c : Nat} {xs : List Value} (h : w.ownsRow 0 58 2 (.slice ao n cap) n xs) (hq : q ≤ n) (hov : q < n → ∃ g, ao = some ⟨g, 0, none⟩ ∧ ov = some ⟨g, q * 2, none⟩) :
    ∃ w2, (∀ ty, (Builtin.clear_ #[74] ty #[.slice ov (n - q) c]).run Try.prog w = .ok (.tuple #[]) w2) ∧ Kept (fun k => (Value.slice ao n cap).ownBlock = some k) w w2 ∧ ∃ ys, w2.ownsRow 0 58 2 (.slice ao n cap) n ys ∧ ys.take (q * 2) = xs.take (q * 2) := by
  by_cases hlt : q < n
  · obtain ⟨g, rfl, rfl⟩ := hov hlt
    have hx := h.1
    have hz : ∀ W, (zeroValue 58).run Try.prog W = .ok (.agg #[.int .i64 0, .slice none 0 0]) W := fun W => by kernel_rfl
    have hcs : (Value.agg #[.int .i64 0, .slice none 0 0]).cells.size = 2 := rfl
    obtain ⟨ys, g1, g2, g3⟩ := own_setCells (Builtin.zeroCells (Value.agg #[.int .i64 0, .slice none 0 0]).cells (n - q)).toList (q * 2) w xs h
    refine ⟨_, fun ty => run_clear_wide w 74 58 ty (.agg #[.int .i64 0, .slice none 0 0]) Try.underlying74 hz g (q * 2) (n - q) c (by omega) (zero47_one _) (fun j hj => ?_) (fun j hj => h.frozenAt _), g3.mono (fun k hk => by rw [hk]; rfl), ys, g1, g2⟩
    rw [hcs] at hj
    rw [h.cellAt (q * 2 + j) (by omega), List.getElem?_eq_getElem (by omega)]
    rfl
  · obtain rfl : q = n := by omega
    refine ⟨w, fun ty => ?_, Kept.refl _ _, xs, h, rfl⟩
    rw [Nat.sub_self]
    cases ov <;> simp [Builtin.clear_, run_underlying Try.underlying74]
set_option maxRecDepth 100000 in
set_option maxHeartbeats 4000000 in
theorem backC_any (n : Int) (h : CAx w a S M R m P sb sc nv mb) : Calls Try.prog 36 #[.pointer (some ⟨a, 0, none⟩), .int .i64 n] w fun e w' => BkL (R.map ND.nd) n w e w' (fun N' V => CA V a S M N' m P) P := by
  obtain ⟨c0, c1, c2, c3⟩ := h.cells
  have hfw := h.few
  obtain ⟨ao, cap, hv, hp⟩ := h.shape
  subst hv
  by_cases h0 : n < 0
  · have HC : Hid (¬ (0 ≤ n ∧ n ≤ ((R.map ND.nd).length : Int))) := fun h => by have := h.1; omega
    clear h
    go_enter Try.func36, Try.ntmps36
    go_wp2
    go_ret
    exact .inr ⟨HC.out, rfl, Below.refl _ _⟩
  by_cases h1 : (R.length : Int) < n
  · have HC : Hid (¬ (0 ≤ n ∧ n ≤ ((R.map ND.nd).length : Int))) := fun h => by have := h.2; rw [List.length_map] at this; omega
    clear h
    go_enter Try.func36, Try.ntmps36
    go_wp2
    go_ret
    exact .inr ⟨HC.out, rfl, Below.refl _ _⟩
  obtain ⟨q, rfl⟩ : ∃ q : Nat, n = q := ⟨n.toNat, by omega⟩
  have hq : q ≤ R.length := by omega
  have hq0 : ¬ (q : Int) < 0 := by omega
  have hq1 : ¬ R.length < q := by omega
  have HH := hide h
  have HP := hide hp
  have HMP := hide (h.map.part q)
  have HND := hide h.keys
  clear h hp h0 h1
  have eL : ((R.length : Int) - (q : Int)) = ((R.length - q : Nat) : Int) := by omega
  go_enter Try.func36, Try.ntmps36
  go_upto_region 4 with fail
  obtain ⟨ov, hov⟩ : ∃ ov, ov = (if cap = q then ao else Option.map (fun x : Addr => x.add (q * 2)) ao) := ⟨_, rfl⟩
  rw [← hov]
  have HOV : Hid (q < R.length → ∃ g, ao = some ⟨g, 0, none⟩ ∧ ov = some ⟨g, q * 2, none⟩ ∧ R.length ≤ cap) := fun hlt => by
    obtain ⟨g, rfl⟩ := HP.out (by omega)
    have := own_cap HH.out.row
    rw [hov, if_neg (by omega), Option.map_some, addr_add, Nat.zero_add]
    exact ⟨g, rfl, rfl, this⟩
  clear hov
  obtain ⟨es0, cl0, hmb0⟩ := HH.out.map.blk
  have HMB := hide hmb0
  have HNR : Hid (∀ k, (Value.slice ao R.length cap).ownBlock = some k → k ≠ mb) := fun k hk e => by subst e; exact own_ne_map HH.out.map HH.out.row hk
  clear hmb0 c0 c1 c2 c3
  go_wp2
  go_loopw [27] (fun x wr => ∃ j : Nat, j ≤ R.length - q ∧ x = .int .i64 j ∧ Hid (Kept (fun k => k = mb) w wr) ∧ Hid (MpAt wr mb m ((R.map fun x => keyL x.nd).take q) ((R.map fun x => keyL x.nd).drop (q + j)))) (fun x _ => (R.length - q) - (RowKit.intOf x).toNat)
  case atStart => exact ⟨0, Nat.zero_le _, rfl, Kept.refl _ _, HMP⟩
  case round =>
    obtain ⟨j, hj, rfl, HK, HM⟩ := hrel
    clear HMP
    by_cases hlt : j < R.length - q
    · have hlt' : (j : Int) < ((R.length - q : Nat) : Int) := by omega
      have hi : q + j < R.length := by omega
      obtain ⟨g, rfl, rfl, -⟩ := HOV.out (by omega)
      obtain ⟨d0, d1⟩ := HH.out.node rfl hi
      have hgl : g < w.heap.size := (World.ownsRow.lt HH.out.row g rfl).2
      have hgm : g ≠ mb := HNR.out g rfl
      have d0' := (HK.out.cell (p := ⟨g, (q + j) * 2, none⟩) hgl hgm).trans d0
      have d1' := (HK.out.cell (p := ⟨g, (q + j) * 2 + 1, none⟩) hgl hgm).trans d1
      rw [Nat.add_mul] at d0' d1'
      have hmi := HH.out.ok.may (i := q + j) (by rw [List.length_map]; exact hi)
      rw [List.getElem_map] at hmi
      obtain ⟨⟨hl0, hl1⟩, hks, hk1, hk2⟩ := hmi.rng HH.out.ok (by rw [List.length_map]; exact hfw)
      have hkz := HH.out.kid (R[q + j]) (List.getElem_mem hi)
      have hkz' := hkz.kept HK.out (hkz.ne_map HMB.out)
      have HDR : Hid ((R.map fun x => keyL x.nd).drop (q + j) = keyL ((R[q + j]).lv, (R[q + j]).ks) :: (R.map fun x => keyL x.nd).drop (q + (j + 1))) := by
        unfold Hid
        rw [List.drop_eq_getElem_cons (by rw [List.length_map]; exact hi), List.getElem_map]
        rfl
      have HNI : Hid (keyL ((R[q + j]).lv, (R[q + j]).ks) ∉ (R.map fun x => keyL x.nd).take q ∧ keyL ((R[q + j]).lv, (R[q + j]).ks) ∉ (R.map fun x => keyL x.nd).drop (q + (j + 1))) := by
        have e : (R.map fun x => keyL x.nd) = (R.map fun x => keyL x.nd).take q ++ ((R.map fun x => keyL x.nd).drop q) := (List.take_append_drop _ _).symm
        have hp := List.pairwise_iff_getElem.1 HND.out
        refine ⟨fun hin => ?_, fun hin => ?_⟩
        · obtain ⟨i, hi2, e2⟩ := List.getElem_of_mem hin
          rw [List.length_take, List.length_map] at hi2
          have := hp i (q + j) (by rw [List.length_map]; omega) (by rw [List.length_map]; omega) (by omega)
          rw [List.getElem_take] at e2
          rw [e2, List.getElem_map] at this
          exact this rfl
        · obtain ⟨i, hi2, e2⟩ := List.getElem_of_mem hin
          rw [List.length_drop, List.length_map] at hi2
          have := hp (q + j) (q + (j + 1) + i) (by rw [List.length_map]; omega) (by rw [List.length_map]; omega) (by omega)
          rw [List.getElem_drop] at e2
          rw [e2, List.getElem_map] at this
          exact this rfl
      simp only [ND.nd] at hl0 hl1 hks hk1
      have hblk := (HK.out.block a (lt_of_block HH.out.blk) (fun e => by have h1 := HMB.out; rw [← e, HH.out.blk] at h1; cases h1)).trans HH.out.blk
      have HBK := hide hblk
      have HKZ := hide hkz'
      have HKS := hide hks
      rw [HDR.out] at HM
      clear HDR d0 d1 hmi hkz hkz' hks hblk HND
      generalize (R[q + j]).lv = lv at *
      generalize (R[q + j]).ks = ks at *
      generalize (R[q + j]).kb = kb at *
      generalize (R[q + j]).kc = kc at *
      go_upto_region 7 with fail
      have y1 : Below wr.heap.size wr (wr.alloc (.cells #[.int .i64 lv, .slice (some ⟨kb, 0, none⟩) ks.length kc] 58)) := al (Below.refl _ _) _
      have B1 := hide (heap_alloc_new wr (.cells #[.int .i64 lv, .slice (some ⟨kb, 0, none⟩) ks.length kc] 58))
      have y2 := y1.drew
      have B2 : Hid ((wr.alloc (.cells #[.int .i64 lv, .slice (some ⟨kb, 0, none⟩) ks.length kc] 58)).drew.heap[wr.heap.size]? = _) := B1.out
      have A2 := hide ((y2.block a (lt_of_block HBK.out)).trans HBK.out)
      have M2 := hide (HM.out.below y2)
      have Z2 := hide (HKZ.out.below y2)
      have Y2 := hide y2
      clear y1 y2 B1 d0' d1' HBK HM HKZ
      generalize hwx : wr.heap.size = xb at *
      have HXB := hide hwx
      clear hwx
      refine wp_unt (S := fun V => V.cell? ⟨a, 3, none⟩ = some (.map (some mb)) ∧ V.cell? ⟨xb, 0, none⟩ = some (.int .i64 lv) ∧ V.cell? ⟨xb, 1, none⟩ = some (.slice (some ⟨kb, 0, none⟩) ks.length kc)) 9 (by kernel_rfl) ?_
      generalize (wr.alloc (.cells #[.int .i64 lv, .slice (some ⟨kb, 0, none⟩) ks.length kc] 58)).drew = wd at *
      have HS0 : Hid (wd.cell? ⟨a, 3, none⟩ = some (.map (some mb)) ∧ wd.cell? ⟨xb, 0, none⟩ = some (.int .i64 lv) ∧ wd.cell? ⟨xb, 1, none⟩ = some (.slice (some ⟨kb, 0, none⟩) ks.length kc)) := ⟨by rw [cell_of_row _ a 3 _ _ _ A2.out]; rfl, by rw [cell_of_row _ _ 0 _ _ _ B2.out]; rfl, by rw [cell_of_row _ _ 1 _ _ _ B2.out]; rfl⟩
      refine UntH.take (i := 0) (some 31) rfl rfl (by kernel_rfl) (by kernel_rfl) (by kernel_rfl) (by kernel_rfl) (fun _ _ _ _ h => h) (by rfl) HS0.out ?_
      apply Exists.intro
      refine ⟨fun w' hw' => ?_, ?_⟩
      · obtain ⟨q0, q1, q2⟩ := hw'
        go_simp
        first | done | rfl
      try simp only [Act.put, List.setIfInBounds_toArray, List.set_cons_zero, List.set_cons_succ]
      refine UntH.take (i := 1) (some 32) rfl rfl (by kernel_rfl) (by kernel_rfl) (by kernel_rfl) (by kernel_rfl) (fun _ _ _ _ h => h) (by rfl) HS0.out ?_
      apply Exists.intro
      refine ⟨fun w' hw' => ?_, ?_⟩
      · obtain ⟨q0, q1, q2⟩ := hw'
        go_simp
        first | done | rfl
      try simp only [Act.put, List.setIfInBounds_toArray, List.set_cons_zero, List.set_cons_succ]
      refine UntH.take (i := 2) (some 33) rfl rfl (by kernel_rfl) (by kernel_rfl) (by kernel_rfl) (by kernel_rfl) (fun _ _ _ _ h => h) (by rfl) HS0.out ?_
      apply Exists.intro
      refine ⟨fun w' hw' => ?_, ?_⟩
      · obtain ⟨q0, q1, q2⟩ := hw'
        go_simp
        first | done | rfl
      try simp only [Act.put, List.setIfInBounds_toArray, List.set_cons_zero, List.set_cons_succ]
      refine UntH.take (i := 3) (some 34) rfl rfl (by kernel_rfl) (by kernel_rfl) (by kernel_rfl) (by kernel_rfl) (fun _ _ _ _ h => h) (by rfl) HS0.out ?_
      apply Exists.intro
      refine ⟨fun w' hw' => ?_, ?_⟩
      · obtain ⟨q0, q1, q2⟩ := hw'
        go_simp
        first | done | rfl
      try simp only [Act.put, List.setIfInBounds_toArray, List.set_cons_zero, List.set_cons_succ]
      refine UntH.take (i := 4) (some 35) rfl rfl (by kernel_rfl) (by kernel_rfl) (by kernel_rfl) (by kernel_rfl) (fun _ _ _ _ h => h) (by rfl) HS0.out ?_
      apply Exists.intro
      refine ⟨fun w' hw' => ?_, ?_⟩
      · obtain ⟨q0, q1, q2⟩ := hw'
        go_simp
        first | done | rfl
      try simp only [Act.put, List.setIfInBounds_toArray, List.set_cons_zero, List.set_cons_succ]
      refine UntH.take (i := 5) (some 36) rfl rfl (by kernel_rfl) (by kernel_rfl) (by kernel_rfl) (by kernel_rfl) (fun _ _ _ _ h => h) (by rfl) HS0.out ?_
      apply Exists.intro
      refine ⟨fun w' hw' => ?_, ?_⟩
      · obtain ⟨q0, q1, q2⟩ := hw'
        go_simp
        first | done | rfl
      try simp only [Act.put, List.setIfInBounds_toArray, List.set_cons_zero, List.set_cons_succ]
      refine UntH.take (i := 6) (some 37) rfl rfl (by kernel_rfl) (by kernel_rfl) (by kernel_rfl) (by kernel_rfl) (fun _ _ _ _ h => h) (by rfl) HS0.out ?_
      apply Exists.intro
      refine ⟨fun w' hw' => ?_, ?_⟩
      · obtain ⟨q0, q1, q2⟩ := hw'
        go_simp
        first | done | rfl
      try simp only [Act.put, List.setIfInBounds_toArray, List.set_cons_zero, List.set_cons_succ]
      refine UntH.take (i := 7) (some 38) rfl rfl (by kernel_rfl) (by kernel_rfl) (by kernel_rfl) (by kernel_rfl) (fun _ _ _ _ h => h) (by rfl) HS0.out ?_
      apply Exists.intro
      refine ⟨fun w' hw' => ?_, ?_⟩
      · obtain ⟨q0, q1, q2⟩ := hw'
        go_simp
        first | done | rfl
      try simp only [Act.put, List.setIfInBounds_toArray, List.set_cons_zero, List.set_cons_succ]
      have HKY := hide (key_any lv (some ⟨kb, 0, none⟩) kc ks wd hl0 hl1 HKS.out hk1 Z2.out.at)
      refine UntH.step (i := 8) (by kernel_rfl) rfl (fun K hK => ?_)
      go_simp
      refine HKY.out.mono ?_
      rintro e w6 ⟨rfl, x6⟩
      have A6 := hide ((x6.block _ (lt_of_block A2.out)).trans A2.out)
      have B6 := hide ((x6.block _ (lt_of_block B2.out)).trans B2.out)
      have M6 := hide (M2.out.below x6)
      have Y6 := hide (bt Y2.out x6 (by rw [HXB.out]; exact Nat.le_refl _))
      have HS6 : Hid (w6.cell? ⟨a, 3, none⟩ = some (.map (some mb)) ∧ w6.cell? ⟨xb, 0, none⟩ = some (.int .i64 lv) ∧ w6.cell? ⟨xb, 1, none⟩ = some (.slice (some ⟨kb, 0, none⟩) ks.length kc)) := ⟨by rw [cell_of_row _ a 3 _ _ _ A6.out]; rfl, by rw [cell_of_row _ _ 0 _ _ _ B6.out]; rfl, by rw [cell_of_row _ _ 1 _ _ _ B6.out]; rfl⟩
      refine hK _ _ HS6.out ?_
      clear hK K x6 HKY HS0
      try simp only [Act.put, List.setIfInBounds_toArray, List.set_cons_zero, List.set_cons_succ]
      obtain ⟨D, hown, hh, ha⟩ := M6.out
      obtain ⟨w7, hrun, r1, r2⟩ := hown.drop (string_keyed Try.underlying9) Try.underlying73 (keyOf_node lv ks hk1) 0
      have HM7 := hide (MpAt.drop HNI.out.1 HNI.out.2 hh ha r1)
      have HT7 := hide r2
      clear hown hh ha r1 r2 M6 M2
      refine UntH.last (by kernel_rfl) rfl (by kernel_rfl) (by kernel_rfl) (fun K hK => ?_)
      go_simp
      refine hK _ _ ?_
      clear hK K hrun
      have HK7 : Hid (Kept (fun k => k = mb) w w7) := HK.out.trans ((Kept.of_below (by rw [HXB.out]; exact Y6.out)).trans ((kept_of_grown HT7.out.grown).mono (fun b hb => by injection hb with hb; exact hb.symm)))
      go_wp2
      go_roundw
      case rel => exact ⟨j + 1, by omega, by go_num, HK7, HM7⟩
      case measure => simp [RowKit.intOf]; omega
    · have hlt' : ¬ (j : Int) < ((R.length - q : Nat) : Int) := by omega
      have HM' : Hid (MpAt wr mb m ((R.map fun x => keyL x.nd).take q) []) := by
        have := HM.out
        rw [List.drop_eq_nil_of_le (by rw [List.length_map]; omega)] at this
        exact this
      have hblk := (HK.out.block a (lt_of_block HH.out.blk) (fun e => by have h1 := HMB.out; rw [← e, HH.out.blk] at h1; cases h1)).trans HH.out.blk
      have row1 := hide (own_kept HH.out.row HK.out (fun k hk e => HNR.out k hk e))
      have HBK := hide hblk
      clear HM hblk HND
      go_upto_region 9 with fail
      obtain ⟨w2, hcl, k2, ys, o2, e2⟩ := clear_any (c := cap - q) row1.out hq (fun hlt => by obtain ⟨g, g1, g2, _⟩ := HOV.out hlt; exact ⟨g, g1, g2⟩)
      have K2 := hide k2
      have O2 := hide o2
      have E2 := hide e2
      have hna : ¬ (Value.slice ao R.length cap).ownBlock = some a := fun hF => by
        obtain ⟨cs, h5⟩ := own_ty HH.out.row _ hF
        rw [HH.out.blk] at h5
        simp at h5
      have B2 := hide ((k2.block a (lt_of_block HBK.out) hna).trans HBK.out)
      clear k2 o2 e2 hna HBK row1
      have c2 : w2.cell? ⟨a, 2, none⟩ = some (.slice ao R.length cap) := by rw [cell_of_row _ a 2 _ _ _ B2.out]; rfl
      have f2 := frozen_of_row w2 a 2 _ _ B2.out
      have hcap : q ≤ cap := by have := own_cap' O2.out; omega
      have hcap' : (q : Int) ≤ (cap : Int) := by omega
      go_wp2
      go_ret
      have hr := own_take' O2.out hq
      rw [E2.out] at hr
      have := HH.out.cut (n := q) HK.out HM'.out K2.out (nv' := .slice ao q cap) (by rw [Nat.min_eq_left hq]; exact hr) (fun k hk => by cases ao <;> exact hk)
      exact .inl ⟨by omega, by rw [List.length_map]; omega, rfl, by rw [Int.toNat_natCast]; exact this.1, this.2⟩
end
end Go.Proofs.Ytaafeflbanoncaa
