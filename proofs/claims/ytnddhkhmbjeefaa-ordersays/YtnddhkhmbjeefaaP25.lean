/-
  placeOf, order, sizes, nodes of a diagram by their contracts. Condition: at most 12 layers.
-/
import Derived.Test.YtnddhkhmbjeefaaP21
import Derived.Test.YtnddhkhmbjeefaaP24
import Derived.Test.YtnddhkhmbjeefaaP23
import Derived.Laws.EntriesVeiled
import Derived.Test.YtnddhkhmbjeefaaP08
import Derived.DeepKeys4
namespace Go.Proofs.Ytnddhkhmbjeefaa
open Go.RowKit Go.Lib Go.Maps

section
variable {w : World} {B lb lc rc : Nat} {ra : Option Addr} {R : List Int} {Ls : List LA}
/-- The cells of a layer. -/
theorem LaysAt.at0 (h : LaysAt w B lb 0 Ls) {i : Nat} (hi : i < Ls.length) : w.cell? ⟨lb, i * 2, none⟩ = some (.int .i64 (Ls[i]).lv) ∧ w.cell? ⟨lb, i * 2 + 1, none⟩ = some (.slice (some ⟨(Ls[i]).rb, 0, none⟩) (Ls[i]).Rs.length (Ls[i]).rc) := by
  have := h.cl i hi
  rw [Nat.zero_add] at this
  exact this
set_option maxRecDepth 100000 in
set_option maxHeartbeats 1000000 in
theorem pof1_any (w : World) (bx : Nat) (lv v : Int) (y : Option Addr) (yn yc : Nat) (hb : w.cell? ⟨bx, 0, none⟩ = some (.int .i64 v)) :
    Calls Try.prog 61 #[.agg #[.int .i64 lv, .slice y yn yc], .pointer (some ⟨bx, 0, none⟩)] w fun e w' => e = .returned (.bool (lv == v)) ∧ Below w.heap.size w w' := by
  have hbl := World.block_lt_of_cell? _ _ hb
  have X1 : Hid (Below w.heap.size w (w.alloc (.cells #[.int .i64 lv, .slice y yn yc] 105))) := al (Below.refl _ _) _
  have hb1 := (X1.out.cell (p := ⟨bx, 0, none⟩) hbl).trans hb
  have hb2 : (w.alloc (.cells #[.int .i64 lv, .slice y yn yc] 105)).cell? ⟨w.heap.size, 0, none⟩ = some (.int .i64 lv) := by simp
  go_enter Try.func61, Try.ntmps61
  go_upto_region 1 with fail
  generalize w.alloc (.cells #[.int .i64 lv, .slice y yn yc] 105) = w1 at *
  go_wp2
  go_ret
  exact ⟨rfl, X1.out⟩
set_option maxRecDepth 100000 in
set_option maxHeartbeats 2000000 in
theorem indexL_any {bx cap : Nat} {v : Int} (hl : Ls.length ≤ 12) (h : LaysAt w B lb 0 Ls) (hB : B ≤ w.heap.size) (hb : w.cell? ⟨bx, 0, none⟩ = some (.int .i64 v)) {k0 : Nat} (hk : k0 < Ls.length) (hv : (Ls[k0]).lv = v) (hn : ∀ i (hi : i < k0), (Ls[i]).lv ≠ v) :
    Calls Try.prog 60 #[.slice (some ⟨lb, 0, none⟩) Ls.length cap, .func (.func 61) #[] #[.pointer (some ⟨bx, 0, none⟩)]] w fun e w' => e = .returned (.int .i64 (k0 : Int)) ∧ Below w.heap.size w w' := by
  have HL := hide h
  have HV := hide hv
  have HN := hide hn
  have HBX := hide hb
  have hbl := World.block_lt_of_cell? _ _ hb
  have he : ∀ args w, (callFunc 61 args).run Try.prog w = .ok (.enter 61 args) w := fun args w => rfl
  clear h hv hn hb
  go_enter Try.func60, Try.ntmps60
  go_wp2
  go_loopw [8] (fun x wr => ∃ k : Nat, k ≤ k0 ∧ x = .int .i64 (k : Int) ∧ Hid (Below w.heap.size w wr)) (fun x _ => k0 + 1 - (RowKit.intOf x).toNat)
  case atStart => exact ⟨0, Nat.zero_le _, rfl, hide (Below.refl _ _)⟩
  case round =>
    obtain ⟨k, hkk, rfl, XB⟩ := hrel
    have hkl : k < Ls.length := by omega
    have hkl' : (k : Int) < (Ls.length : Int) := by omega
    obtain ⟨q0, q1⟩ := (HL.out.below (XB.out.mono hB)).at0 hkl
    have P1 := hide (pof1_any wr bx (Ls[k]).lv v (some ⟨(Ls[k]).rb, 0, none⟩) (Ls[k]).Rs.length (Ls[k]).rc ((XB.out.cell (p := ⟨bx, 0, none⟩) hbl).trans HBX.out))
    by_cases hkk0 : k = k0
    · have hd : ((Ls[k]).lv == v) = true := by subst hkk0; simp [HV.out]
      rw [hd] at P1
      have HK := hide hkk0
      clear hd hkk0
      go_wp2_with (fail)
      refine P1.out.mono ?_
      rintro e w3 ⟨rfl, x3⟩
      have X3 := hide (bt XB.out x3 (Nat.le_refl _))
      clear P1 x3 q0 q1
      go_wp2
      go_ret
      exact ⟨by rw [← HK.out]; rfl, X3.out⟩
    · have hd : ((Ls[k]).lv == v) = false := by
        have := HN.out k (by omega)
        simp [this]
      rw [hd] at P1
      clear hd
      go_wp2_with (fail)
      refine P1.out.mono ?_
      rintro e w3 ⟨rfl, x3⟩
      have X3 := hide (bt XB.out x3 (Nat.le_refl _))
      clear P1 x3 q0 q1
      go_wp2
      go_roundw
      case rel => exact ⟨k + 1, by omega, by go_num, X3⟩
      case measure => simp [RowKit.intOf]; omega
set_option maxRecDepth 100000 in
set_option maxHeartbeats 2000000 in
theorem placeOf_any {v : Int} (hl : Ls.length ≤ 12) (D : DgX w B ra lb lc R Ls) {k0 : Nat} (hk : k0 < Ls.length) (hv : (Ls[k0]).lv = v) (hn : ∀ i (hi : i < k0), (Ls[i]).lv ≠ v) :
    Calls Try.prog 33 #[dgV ra R.length rc lb Ls.length lc, .int .i64 v] w fun e w' => e = .returned (.int .i64 (k0 : Int)) ∧ Below w.heap.size w w' := by
  have hmf : ∀ (fn : Fn) (first cap : Array Value) (w : World), (Instr.makeFunc fn first cap).run Try.prog w = .ok (.func fn first cap) w := fun _ _ _ _ => rfl
  have X1 : Hid (Below w.heap.size w ((w.alloc (.cells #[.slice ra R.length rc, .slice (some ⟨lb, 0, none⟩) Ls.length lc] 70)).alloc (.cells #[.int .i64 v] 3))) := al (al (Below.refl _ _) _) _
  have c1 : ((w.alloc (.cells #[.slice ra R.length rc, .slice (some ⟨lb, 0, none⟩) Ls.length lc] 70)).alloc (.cells #[.int .i64 v] 3)).cell? ⟨w.heap.size, 1, none⟩ = some (.slice (some ⟨lb, 0, none⟩) Ls.length lc) := by
    have h1 := ((al (Below.refl _ (w.alloc (.cells #[.slice ra R.length rc, .slice (some ⟨lb, 0, none⟩) Ls.length lc] 70))) (.cells #[.int .i64 v] 3)).block w.heap.size (by simp)).trans (heap_alloc_new w _)
    rw [cell_of_row _ _ _ _ _ _ h1]
    rfl
  have c2 : ((w.alloc (.cells #[.slice ra R.length rc, .slice (some ⟨lb, 0, none⟩) Ls.length lc] 70)).alloc (.cells #[.int .i64 v] 3)).cell? ⟨w.heap.size + 1, 0, none⟩ = some (.int .i64 v) := by
    have h1 := heap_alloc_new (w.alloc (.cells #[.slice ra R.length rc, .slice (some ⟨lb, 0, none⟩) Ls.length lc] 70)) (.cells #[.int .i64 v] 3)
    rw [show (w.alloc (.cells #[.slice ra R.length rc, .slice (some ⟨lb, 0, none⟩) Ls.length lc] 70)).heap.size = w.heap.size + 1 by simp] at h1
    rw [cell_of_row _ _ _ _ _ _ h1]
    rfl
  have IX := hide (fun (W : World) (x : Below w.heap.size w W) (hb : W.cell? ⟨w.heap.size + 1, 0, none⟩ = some (.int .i64 v)) => indexL_any (cap := lc) hl (D.below (x.mono D.hB)).lay (Nat.le_trans D.hB x.size) hb hk hv hn)
  clear D hv hn
  go_enter Try.func33, Try.ntmps33
  go_upto_region 1 with fail
  generalize (w.alloc (.cells #[.slice ra R.length rc, .slice (some ⟨lb, 0, none⟩) Ls.length lc] 70)).alloc (.cells #[.int .i64 v] 3) = w1 at *
  go_wp2_with (go_at_call 60; refine (IX.out w1 X1.out c2).mono ?_; rintro e w2 ⟨rfl, x2⟩; have X2 := hide (bt X1.out x2 (Nat.le_refl _)); clear x2)
  go_ret
  exact ⟨rfl, X2.out⟩
/-- A row of numbers, written from the front on. -/
theorem RwZ.next {w : World} {g n k : Nat} {L : List Int} {x : Int} (h : RwZ w g (L ++ List.replicate (n - k) 0)) (hL : L.length = k) (hk : k < n) : RwZ (w.setCell ⟨g, k, none⟩ (.int .i64 x)) g ((L ++ [x]) ++ List.replicate (n - (k + 1)) 0) := by
  have := h.set k x
  have e : (L ++ List.replicate (n - k) 0).set k x = (L ++ [x]) ++ List.replicate (n - (k + 1)) 0 := by
    rw [List.set_append_right _ _ (by omega), hL, Nat.sub_self, show n - k = (n - (k + 1)) + 1 by omega, List.replicate_succ]
    simp
  rw [e] at this
  exact this
set_option maxRecDepth 100000 in
set_option maxHeartbeats 2000000 in
theorem order_any (hl : Ls.length ≤ 12) (D : DgX w B ra lb lc R Ls) :
    Calls Try.prog 40 #[dgV ra R.length rc lb Ls.length lc] w fun e w' => ∃ g, e = .returned (.slice (some ⟨g, 0, none⟩) Ls.length Ls.length) ∧ RwZ w' g (Ls.map LA.lv) ∧ w.heap.size ≤ g ∧ Below w.heap.size w w' := by
  have HD := hide D
  have hBw := D.hB
  have X1 : Hid (Below w.heap.size w (w.alloc (.cells #[.slice ra R.length rc, .slice (some ⟨lb, 0, none⟩) Ls.length lc] 70))) := al (Below.refl _ _) _
  have D1 : Hid ((w.alloc (.cells #[.slice ra R.length rc, .slice (some ⟨lb, 0, none⟩) Ls.length lc] 70)).heap[w.heap.size]? = some (.cells #[.slice ra R.length rc, .slice (some ⟨lb, 0, none⟩) Ls.length lc] 70 (0, 0))) := heap_alloc_new w _
  have hmk := make_ints Ls.length (Ls.length : Int) rfl (by omega)
  clear D
  go_enter Try.func40, Try.ntmps40
  go_upto_region 1 with fail
  generalize w.alloc (.cells #[.slice ra R.length rc, .slice (some ⟨lb, 0, none⟩) Ls.length lc] 70) = w1 at *
  have d1 : w1.cell? ⟨w.heap.size, 1, none⟩ = some (.slice (some ⟨lb, 0, none⟩) Ls.length lc) := by rw [cell_of_row w1 _ _ _ _ _ D1.out]; rfl
  have SZ1 : Hid (w.heap.size < w1.heap.size) := lt_of_block D1.out
  go_upto_region 2 with fail
  have X2 : Hid (Below w1.heap.size w1 (w1.alloc (.cells (zC (List.replicate Ls.length 0)).toArray 3))) := al (Below.refl _ _) _
  have Z2 : Hid (RwZ (w1.alloc (.cells (zC (List.replicate Ls.length 0)).toArray 3)) w1.heap.size ([] ++ List.replicate (Ls.length - 0) 0)) := RwZ.made w1 _
  clear d1 hmk
  generalize w1.alloc (.cells (zC (List.replicate Ls.length 0)).toArray 3) = w2 at *
  have d2 : w2.cell? ⟨w.heap.size, 1, none⟩ = some (.slice (some ⟨lb, 0, none⟩) Ls.length lc) := by rw [cell_of_row w2 _ _ _ _ _ ((X2.out.block _ SZ1.out).trans D1.out)]; rfl
  go_wp2
  clear d2
  go_loopw [13] (fun x wr => ∃ k : Nat, k ≤ Ls.length ∧ x = .int .i64 (k : Int) ∧ Hid (RwZ wr w1.heap.size ((Ls.take k).map LA.lv ++ List.replicate (Ls.length - k) 0)) ∧ Hid (Below w.heap.size w wr)) (fun x _ => Ls.length - (RowKit.intOf x).toNat)
  case atStart => exact ⟨0, Nat.zero_le _, rfl, Z2, hide (bt X1.out X2.out (Nat.le_refl _))⟩
  case round =>
    obtain ⟨k, hk, rfl, ZK, XK⟩ := hrel
    clear Z2 X2
    by_cases hlt : k < Ls.length
    · have hlt' : (k : Int) < (Ls.length : Int) := by omega
      obtain ⟨q0, q1⟩ := (HD.out.below (XK.out.mono hBw)).lay.at0 hlt
      have Y1 : Hid (Below wr.heap.size wr (wr.alloc (.cells #[.int .i64 (Ls[k]).lv, .slice (some ⟨(Ls[k]).rb, 0, none⟩) (Ls[k]).Rs.length (Ls[k]).rc] 105))) := al (Below.refl _ _) _
      have p0 : (wr.alloc (.cells #[.int .i64 (Ls[k]).lv, .slice (some ⟨(Ls[k]).rb, 0, none⟩) (Ls[k]).Rs.length (Ls[k]).rc] 105)).cell? ⟨wr.heap.size, 0, none⟩ = some (.int .i64 (Ls[k]).lv) := by simp
      go_upto_region 5 with fail
      clear q0 q1
      have Z3 := hide (ZK.out.below Y1.out)
      have X3 := hide (bt XK.out Y1.out (Nat.le_refl _))
      generalize wr.alloc (.cells #[.int .i64 (Ls[k]).lv, .slice (some ⟨(Ls[k]).rb, 0, none⟩) (Ls[k]).Rs.length (Ls[k]).rc] 105) = w3 at *
      obtain ⟨v0, hv0⟩ : ∃ v0, w3.cell? ⟨w1.heap.size, k, none⟩ = some v0 := ⟨_, Z3.out.cell (k := k) (by simp; omega)⟩
      have f0 := Z3.out.fro k
      have Z4 := hide (Z3.out.next (x := (Ls[k]).lv) (by simp; omega) hlt)
      have HT : Hid ((Ls.take (k + 1)).map LA.lv = (Ls.take k).map LA.lv ++ [(Ls[k]).lv]) := by unfold Hid; rw [List.take_succ_eq_append_getElem hlt, List.map_append]; rfl
      go_wp2
      go_roundw
      case rel => exact ⟨k + 1, by omega, by go_num, by rw [HT.out]; exact Z4, hide (X3.out.setCell (p := ⟨w1.heap.size, k, none⟩) (Nat.le_of_lt SZ1.out) _)⟩
      case measure => simp [RowKit.intOf]; omega
    · have hlt' : ¬ (k : Int) < (Ls.length : Int) := by omega
      obtain rfl : k = Ls.length := by omega
      go_wp2
      go_ret
      have := ZK.out
      rw [List.take_length, Nat.sub_self, List.replicate_zero, List.append_nil] at this
      exact ⟨_, rfl, this, Nat.le_of_lt SZ1.out, XK.out⟩
end
end Go.Proofs.Ytnddhkhmbjeefaa
/-
  The program's refs in memory: newRefs, place by their contracts. Condition: refs of an arena.
-/
namespace Go.Proofs.Ytnddhkhmbjeefaa
open Go.RowKit Go.Lib Go.Maps

theorem keyed3 : Keyed Try.prog 3 := int_keyed Try.underlying3
theorem wfI (x : Int) (h0 : 0 ≤ x) (h1 : x ≤ 4294967296) : (Lit.int .i64 x).wf = true := by simp [Lit.wf, IntKind.min, IntKind.max, IntKind.bits, IntKind.signed]; omega
theorem wfJ (x : Int) (h0 : 0 ≤ x) (h1 : x ≤ 1073741824) : (Lit.int .i32 x).wf = true := by simp [Lit.wf, IntKind.min, IntKind.max, IntKind.bits, IntKind.signed]; omega
theorem keyI_is {f : Int} (h0 : 0 ≤ f) (h1 : f ≤ 4294967296) : keyOf Try.prog 3 (.int .i64 f) = some (.int .i64 f) := keyOf_int_mk Try.underlying3 (wfI f h0 h1)
def keyZ (f : Int) : Lit := .int .i64 f
theorem keyZ_key (f : Int) : WideAt.IsKeyLit (keyZ f) := by unfold keyZ; trivial
theorem wpList_insert_in {H : Type} {P : Program} {ops : Array Oper} {rest : List Oper} {o : Oper} {a : Act} {w : World} {Q : Exit → Act → World → Prop} (hg : o.guard = none) (m x v : Operand) (t : TypeId) (hop : o.op = Op.insert t m x v)
    (k e : TypeId) (K : Keyed P k) (ht : P.underlying t = some (.map k e)) (R : Value → Option (DataW H × List MemPlace)) (b n : Nat) (D : DataW H)
    (hm : a.eval m = .map (some b)) (hown : w.ownsMap P k R b n D) (hn : n < maxLen) (key val : Value) (kl : Lit) (hx : a.eval x = key) (hv : a.eval v = val) (hkey : keyOf P k key = some kl)
    (d : DataW H) (ps : List MemPlace) (hval : R val = some (d, ps))
    (hK : ∀ w', w'.ownsMap P k R b (n + 1) (D.put kl d) → w.mapTurned w' b → wpList P ops Q rest (a.put o.dst undef) w') :
    wpList P ops Q (o :: rest) a w := by
  refine wpList_plain hg fun K' hK' => ?_
  obtain ⟨w', hrun, r1, r2⟩ := hown.store K ht hn hkey hval
  unfold Oper.wp
  simp [execOp, hop, hm, hx, hv, hrun, Result.andThen]
  exact hK' _ _ (hK w' r1 r2)
/-- Refs, each once. -/
structure RfX (w : World) (r : Nat) (Q : List Int) (P : Nat → Prop) (lv : Value) (mb : Nat) : Prop where
  blk : w.heap[r]? = some (.cells #[lv, .map (some mb)] 101 (0, 0))
  row : w.ownsRow 0 3 1 lv Q.length (zC Q)
  map : MpT 3 w mb Q.length (Q.map keyZ)
  pr : P r
  pl : ∀ k, lv.ownBlock = some k → P k
  pm : P mb
  plt : ∀ k, P k → k < w.heap.size
  nr : NoRun w P
  ok : ∀ f ∈ Q, 0 ≤ f ∧ f ≤ 4294967296
def RfAt (w : World) (r : Nat) (Q : List Int) (P : Nat → Prop) : Prop := ∃ lv mb, RfX w r Q P lv mb
section
variable {w w' : World} {r : Nat} {Q : List Int} {P F : Nat → Prop} {lv : Value} {mb : Nat}
theorem RfX.kept (h : RfX w r Q P lv mb) (hk : Kept F w w') (hF : ∀ k, P k → ¬ F k) : RfX w' r Q P lv mb :=
  ⟨(hk.block r (h.plt r h.pr) (hF r h.pr)).trans h.blk, own_kept h.row hk (fun k hb => hF k (h.pl k hb)), h.map.kept hk (hF _ h.pm), h.pr, h.pl, h.pm, fun k hp => Nat.lt_of_lt_of_le (h.plt k hp) hk.size, fun k hp cs e => h.nr k hp cs ((hk.block k (h.plt k hp) (hF k hp)).symm.trans e), h.ok⟩
theorem RfAt.kept (h : RfAt w r Q P) (hk : Kept F w w') (hF : ∀ k, P k → ¬ F k) : RfAt w' r Q P := by
  obtain ⟨lv, mb, h1⟩ := h
  exact ⟨lv, mb, h1.kept hk hF⟩
theorem RfX.below (h : RfX w r Q P lv mb) (x : Below w.heap.size w w') : RfX w' r Q P lv mb := h.kept (F := fun _ => False) (Kept.of_below x) (fun _ _ h => h)
theorem RfAt.below (h : RfAt w r Q P) (x : Below w.heap.size w w') : RfAt w' r Q P := h.kept (F := fun _ => False) (Kept.of_below x) (fun _ _ h => h)
theorem RfX.cells (h : RfX w r Q P lv mb) : w.cell? ⟨r, 0, none⟩ = some lv ∧ w.cell? ⟨r, 1, none⟩ = some (.map (some mb)) := by
  refine ⟨?_, ?_⟩ <;> (rw [cell_of_row w r _ _ _ _ h.blk]; rfl)
/-- What place leaves. -/
def RfL (r : Nat) (Q : List Int) (P : Nat → Prop) (f : Int) (w : World) (e : Ending) (w' : World) : Prop :=
  ∃ i : Nat, e = .returned (.int .i32 (i : Int)) ∧ (plc Q f)[i]? = some f ∧ ∃ P', RfAt w' r (plc Q f) P' ∧ Kept P w w' ∧ ∀ k, P' k → P k ∨ w.heap.size ≤ k
/-- One more. -/
theorem RfX.add (h : RfX w r Q P lv mb) {w1 w2 w3 w4 : World} {f : Int} {lv' : Value} (t1 : w.mapTurned w1 mb) (h1 : MpT 3 w1 mb (Q.length + 1) (Q.map keyZ ++ [keyZ f])) (x2 : Below w1.heap.size w1 w2) (hf : 0 ≤ f ∧ f ≤ 4294967296) (h3 : w3.ownsRow 0 3 1 lv' (Q.length + 1) (zC Q ++ [.int .i64 f])) (g3 : w2.grownBy w3 lv.ownBlock) (l3 : ∀ k, lv'.ownBlock = some k → lv.ownBlock = some k ∨ w2.heap.size ≤ k) (e4 : w4 = w3.setCell ⟨r, 0, none⟩ lv') :
    ∃ P', RfAt w4 r (Q ++ [f]) P' ∧ Kept P w w4 ∧ ∀ k, P' k → P k ∨ w.heap.size ≤ k := by
  subst e4
  have k1 := mapTurned_kept t1
  obtain ⟨es, cl, hmb⟩ := h.map.blk
  have b1 := (k1.block r (lt_of_block h.blk) (map_ne h.blk hmb)).trans h.blk
  have row1 := own_kept h.row k1 (fun k hk e => by
    obtain ⟨cs', h5⟩ := own_ty h.row _ hk
    exact map_ne h5 hmb e)
  have b2 := (x2.block r (lt_of_block b1)).trans b1
  have row2 := own_below row1 x2
  have map2 : MpT 3 w2 mb (Q.length + 1) (Q.map keyZ ++ [keyZ f]) := h1.congr (x2.block mb h1.lt)
  have k3 : Kept (fun k => lv.ownBlock = some k) w2 w3 := kept_of_grown g3
  obtain ⟨es2, cl2, hmb2⟩ := map2.blk
  have b3 := (k3.block r (lt_of_block b2) (fun hk => by
    obtain ⟨cs', h5⟩ := own_ty row2 _ hk
    exact ty_ne h5 b2 (by decide) rfl)).trans b2
  have map3 := map2.kept k3 (fun hk => by
    obtain ⟨cs', h5⟩ := own_ty row2 _ hk
    exact map_ne h5 hmb2 rfl)
  have k4 : Kept (fun k => k = r) w3 (w3.setCell ⟨r, 0, none⟩ lv') := Kept.setCell (F := fun k => k = r) (p := ⟨r, 0, none⟩) (Kept.refl _ _) rfl _
  have b4 : (w3.setCell ⟨r, 0, none⟩ lv').heap[r]? = some (.cells #[lv', .map (some mb)] 101 (0, 0)) := by
    have := block_setCell b3 0 lv'
    simpa using this
  obtain ⟨es3, cl3, hmb3⟩ := map3.blk
  have row4 := own_kept h3 k4 (fun k hk e => by
    obtain ⟨cs', h5⟩ := own_ty h3 _ hk
    exact ty_ne h5 b3 (by decide) e)
  have map4 := map3.kept k4 (fun e => map_ne b3 hmb3 e.symm)
  have kk : Kept P w (w3.setCell ⟨r, 0, none⟩ lv') := (((k1.mono (fun k e => by rw [e]; exact h.pm)).trans (Kept.of_below x2)).trans (k3.mono (fun k hk => h.pl k hk))).trans (k4.mono (fun k e => by rw [e]; exact h.pr))
  have hs2 : w.heap.size ≤ w2.heap.size := Nat.le_trans k1.size x2.size
  refine ⟨fun k => k = r ∨ lv'.ownBlock = some k ∨ k = mb, ⟨lv', mb, ⟨b4, by rw [List.length_append, zC_snoc]; exact row4, by rw [List.length_append, List.map_append]; exact map4, .inl rfl, fun k hk => .inr (.inl hk), .inr (.inr rfl), fun k hk => ?_, fun k hk cs e => ?_, fun g hg => ?_⟩⟩, kk, fun k hk => ?_⟩
  · rcases hk with e | hk | e
    · rw [e]; exact lt_of_block b4
    · exact (World.ownsRow.lt row4 k hk).2
    · rw [e]; exact map4.lt
  · rcases hk with hk | hk | hk
    · subst hk; exact ty_ne b4 e (by decide) rfl
    · obtain ⟨cs', h5⟩ := own_ty row4 _ hk
      exact ty_ne h5 e (by decide) rfl
    · subst hk
      obtain ⟨es4, cl4, hmb4⟩ := map4.blk
      exact map_ne e hmb4 rfl
  · rcases List.mem_append.1 hg with hg | hg
    · exact h.ok g hg
    · rw [List.mem_singleton.1 hg]; exact hf
  · rcases hk with e | hk | e
    · rw [e]; exact .inl h.pr
    · rcases l3 k hk with h5 | h5
      · exact .inl (h.pl k h5)
      · exact .inr (Nat.le_trans hs2 h5)
    · rw [e]; exact .inl h.pm
set_option maxRecDepth 100000 in
set_option maxHeartbeats 4000000 in
theorem rplace_any (h : RfX w r Q P lv mb) {f : Int} (hf : 0 ≤ f ∧ f ≤ 4294967296) (hl : Q.length < 1073741824) :
    Calls Try.prog 55 #[.pointer (some ⟨r, 0, none⟩), .int .i64 f] w fun e w' => RfL r Q P f w e w' := by
  obtain ⟨c0, c1⟩ := h.cells
  obtain ⟨la, lc, hlv, _⟩ := own_shape h.row
  subst hlv
  have HH := hide h
  have HF := hide hf
  have HKO := hide (keyI_is hf.1 hf.2)
  obtain ⟨D, hown, hh, ha⟩ := h.map
  have hz0 : (zeroValue 21).run Try.prog w = .ok (.int .i32 0) w := Try.zeroValue21 w
  obtain ⟨i3, hi3, hz30, hz31, hz32⟩ := info_parts Try.info3
  clear h hf
  by_cases hin : f ∈ Q
  · have hk : keyZ f ∈ Q.map keyZ := List.mem_map.2 ⟨f, hin, rfl⟩
    have hhas := (hh _).2 hk
    have HP : Hid (plc Q f = Q) := by unfold Hid plc; rw [if_pos hin]
    have HIT : Hid (∀ c : Int, D.atKey (keyZ f) (.lit (.int .i32 0)) = .lit (.int .i32 c) → ∃ i : Nat, c = (i : Int) ∧ Q[i]? = some f) := fun c hc => by
      obtain ⟨i, hi, e, rfl⟩ := MpT.hit ha hc hk
      rw [List.length_map] at hi
      rw [List.getElem_map] at e
      unfold keyZ at e
      injection e with _ e
      exact ⟨i, rfl, by rw [List.getElem?_eq_getElem hi, e]⟩
    have HOWN := hide hown
    clear hown hh ha hk hin
    unfold keyZ at hhas HIT
    go_enter Try.func55, Try.ntmps55
    go_wp2_with (at_lookup; refine wpList_lookup_own_ok_int _ rfl (.tmp 12) (.tmp 13) 99 rfl 3 21 .i32 keyed3 Try.underlying99 Try.underlying21 hz0 mb Q.length D rfl HOWN.out _ _ rfl HKO.out ?_; intro c hat _; rw [hhas]; obtain ⟨i, hci, hqi⟩ := HIT.out c hat; subst hci; have HQI := hide hqi; clear hat hqi)
    go_ret
    exact ⟨i, rfl, by rw [HP.out]; exact HQI.out, P, by rw [HP.out]; exact ⟨_, mb, HH.out⟩, Kept.refl _ _, fun k hk => .inl hk⟩
  · have hk : keyZ f ∉ Q.map keyZ := fun hm => by
      obtain ⟨x, hx, e⟩ := List.mem_map.1 hm
      unfold keyZ at e
      injection e with _ e
      subst e
      exact hin hx
    have hhas : Maps.has D (keyZ f) = false := by
      cases e : Maps.has D (keyZ f)
      · rfl
      · exact absurd ((hh _).1 e) hk
    have HP : Hid (plc Q f = Q ++ [f]) := by unfold Hid plc; rw [if_neg hin]
    have HOWN := hide hown
    have HHS := hide hh
    have HAT := hide ha
    have HKN := hide hk
    have e1 : IntKind.i32.wrap (Q.length : Int) = (Q.length : Int) := by simp [IntKind.wrap, IntKind.bits, IntKind.signed]; omega
    have hwf := wfJ (Q.length : Int) (by omega) (by omega)
    clear hown hh ha hk hin
    unfold keyZ at hhas
    go_enter Try.func55, Try.ntmps55
    go_upto_region 6 with (first
      | (at_lookup; refine wpList_lookup_own_ok_int _ rfl (.tmp 12) (.tmp 13) 99 rfl 3 21 .i32 keyed3 Try.underlying99 Try.underlying21 hz0 mb Q.length D rfl HOWN.out _ _ rfl HKO.out ?_; intro c hat _; rw [hhas]; clear hat)
      | (at_mapUpdate; refine wpList_mapUpdate_in _ rfl (.tmp 28) (.tmp 29) (.tmp 30) 99 rfl 3 21 keyed3 Try.underlying99 _ mb Q.length D rfl HOWN.out (by unfold maxLen; omega) _ _ _ rfl rfl HKO.out _ [] (plainElem_int Try.underlying21 hwf) ?_; intro w1 t1 t2; have T1 := hide t1; have T2 := hide t2; clear t1 t2))
    obtain ⟨es, cl, hmb⟩ := HH.out.map.blk
    have B1 : Hid (w1.heap[r]? = some (.cells #[.slice la Q.length lc, .map (some mb)] 101 (0, 0))) := ((mapTurned_kept T2.out).block r (lt_of_block HH.out.blk) (map_ne HH.out.blk hmb)).trans HH.out.blk
    have ROW1 : Hid (w1.ownsRow 0 3 1 (.slice la Q.length lc) Q.length (zC Q)) := own_kept HH.out.row (mapTurned_kept T2.out) (fun k hk e => by
      obtain ⟨cs', h5⟩ := own_ty HH.out.row _ hk
      exact map_ne h5 hmb e)
    have HPU := hide (MpT.put (kt := 3) (keyZ_key f) HKN.out HOWN.out.isMap HHS.out HAT.out (by rw [List.length_map]; exact T1.out))
    have d0 : w1.cell? ⟨r, 0, none⟩ = some (.slice la Q.length lc) := by rw [cell_of_row w1 r _ _ _ _ B1.out]; rfl
    clear hmb c0 c1
    have BQ : Hid (∀ W : World, (w1.alloc (.cells #[.int .i64 f] 3)).grownBy W (Value.slice la Q.length lc).ownBlock → W.heap[r]? = some (.cells #[.slice la Q.length lc, .map (some mb)] 101 (0, 0))) := fun W g => ((kept_of_grown g).block r (by have := lt_of_block B1.out; simp; omega) (fun hz => by
      obtain ⟨cs', h5⟩ := own_ty (own_below ROW1.out (al (Below.refl _ _) (.cells #[.int .i64 f] 3))) _ hz
      exact ty_ne h5 (((al (Below.refl _ w1) (.cells #[.int .i64 f] 3)).block r (lt_of_block B1.out)).trans B1.out) (by decide) rfl)).trans (((al (Below.refl _ w1) (.cells #[.int .i64 f] 3)).block r (lt_of_block B1.out)).trans B1.out)
    go_wp2_with (at_builtin; refine wpList_append_lies _ rfl (.tmp 35) (.tmp 37) 22 rfl 0 3 i3 (.int .i64 0) 1 8 Try.underlying22 hi3 hz30 hz31 hz32 rfl (by decide) _ Q.length (zC Q) rfl (own_below ROW1.out (al (Below.refl _ _) _)) ⟨w1.heap.size, 0, none⟩ 1 1 [.int .i64 f] rfl rfl (one_new w1 _ _) (by simp [Value.oneCell']) (by decide) (by unfold maxLen; omega) (by omega) (Nat.zero_le _) _ rfl ?_; intro g8 cap8 w8 h1 h2 h3 h4; have O8 := hide h1; have G8 := hide h2; have L8 := hide h3; have B8 := BQ.out w8 h2; have q8 : w8.cell? ⟨r, 0, none⟩ = some (.slice la Q.length lc) := (by rw [cell_of_row w8 r _ _ _ _ B8]; rfl); have f8 := frozen_of_row w8 r 0 _ _ B8; clear h1 h2 h3 h4 B8)
    go_ret
    obtain ⟨P', p1, p2, p3⟩ := HH.out.add T2.out HPU.out (al (Below.refl _ w1) (.cells #[.int .i64 f] 3)) HF.out O8.out G8.out (fun k hk => by
      have e : g8 = k := Option.some.inj hk
      subst e
      rcases L8.out with h3 | h3
      · exact .inl h3
      · exact .inr (by omega)) (w4 := w8.setCell ⟨r, 0, none⟩ (.slice (some ⟨g8, 0, none⟩) (Q.length + 1) cap8)) rfl
    refine ⟨Q.length, rfl, by rw [HP.out, List.getElem?_append_right (Nat.le_refl _)]; simp, P', by rw [HP.out]; exact p1, p2, p3⟩
theorem RfAt.place (h : RfAt w r Q P) {f : Int} (hf : 0 ≤ f ∧ f ≤ 4294967296) (hl : Q.length < 1073741824) :
    Calls Try.prog 55 #[.pointer (some ⟨r, 0, none⟩), .int .i64 f] w fun e w' => RfL r Q P f w e w' := by
  obtain ⟨lv, mb, h1⟩ := h
  exact rplace_any h1 hf hl
set_option maxRecDepth 100000 in
set_option maxHeartbeats 2000000 in
theorem newRefs_any (w : World) : Calls Try.prog 54 #[] w fun e w' => ∃ r, e = .returned (.pointer (some ⟨r, 0, none⟩)) ∧ ∃ P, RfAt w' r [0, 1] P ∧ (∀ k, P k → w.heap.size ≤ k) ∧ Below w.heap.size w w' := by
  have hmm : ∀ W : World, (Instr.makeMap 99 none).run Try.prog W = .ok (.map (some W.heap.size)) (W.alloc (.map #[] 0)) := fun W => rfl
  have y1 : Below w.heap.size w (w.alloc (.cells #[.int .i64 0, .int .i64 1] 3)) := al (Below.refl _ _) _
  have hs1 : (w.alloc (.cells #[.int .i64 0, .int .i64 1] 3)).heap.size = w.heap.size + 1 := by simp
  have mp0 := MpT.made 3 (w.alloc (.cells #[.int .i64 0, .int .i64 1] 3))
  rw [hs1] at mp0
  have O1 : Hid ((w.alloc (.cells #[.int .i64 0, .int .i64 1] 3)).ownsRow w.heap.size 3 1 (.slice (some ⟨w.heap.size, 0, none⟩) 2 2) 2 (zC [0, 1])) := ⟨rfl, .inr ⟨w.heap.size, 2, _, rfl, Nat.le_refl _, heap_alloc_new w _, by decide, by decide, rfl, rfl⟩⟩
  have Y2 : Hid (Below w.heap.size w ((w.alloc (.cells #[.int .i64 0, .int .i64 1] 3)).alloc (.map #[] 0))) := al y1 _
  have O2 : Hid (((w.alloc (.cells #[.int .i64 0, .int .i64 1] 3)).alloc (.map #[] 0)).ownsRow w.heap.size 3 1 (.slice (some ⟨w.heap.size, 0, none⟩) 2 2) 2 (zC [0, 1])) := own_below O1.out (al (Below.refl _ _) _)
  obtain ⟨D, hown, hh, ha⟩ := mp0
  have HOWN := hide hown
  have HH := hide hh
  have HA := hide ha
  have HK0 := hide (keyI_is (f := 0) (by decide) (by decide))
  have HK1 := hide (keyI_is (f := 1) (by decide) (by decide))
  obtain ⟨w3, hrun0, r01, r02⟩ := hown.store keyed3 Try.underlying99 (by unfold maxLen; omega) (keyI_is (f := 0) (by decide) (by decide)) (plainElem_int Try.underlying21 (wfJ 0 (by decide) (by decide)))
  have M3 := hide (MpT.put (kt := 3) (keyZ_key 0) (by simp) hown.isMap hh ha r01)
  obtain ⟨D3, hown3, hh3, ha3⟩ := M3.out
  obtain ⟨w4, hrun1, r11, r12⟩ := r01.store keyed3 Try.underlying99 (by unfold maxLen; omega) (keyI_is (f := 1) (by decide) (by decide)) (plainElem_int Try.underlying21 (wfJ 1 (by decide) (by decide)))
  have M4 : Hid (MpT 3 w4 (w.heap.size + 1) 2 ([0, 1].map keyZ)) := by
    have h1 : ∀ kl, Maps.has (D.put (keyZ 0) (.lit (.int .i32 0))) kl = true ↔ kl ∈ ([keyZ 0] : List Lit) := fun kl => by
      by_cases e : kl = keyZ 0
      · subst e
        rw [Maps.has_put_same hown.isMap (keyZ_key 0)]
        simp
      · rw [Maps.has_put_other e, hh kl]
        simp [e]
    have h2 : ∀ i (h : i < ([keyZ 0] : List Lit).length), (D.put (keyZ 0) (.lit (.int .i32 0))).atKey ([keyZ 0] : List Lit)[i] (.lit (.int .i32 0)) = .lit (.int .i32 (i : Int)) := fun i hi => by
      have : i = 0 := by simpa using hi
      subst this
      exact Maps.atKey_put_same hown.isMap (keyZ_key 0) _ _
    exact MpT.put (kt := 3) (keyZ_key 1) (by simp [keyZ]) r01.isMap h1 h2 r11
  have K4 : Hid (Kept (fun k => k = w.heap.size + 1) ((w.alloc (.cells #[.int .i64 0, .int .i64 1] 3)).alloc (.map #[] 0)) w4) := (mapTurned_kept r02).trans (mapTurned_kept r12)
  clear hown hh ha y1 r01 r02 r11 r12 hown3 hh3 ha3 M3 HOWN HH HA HK0 HK1
  have Y5 : Hid (Below w4.heap.size w4 (w4.alloc (.cells #[.slice (some ⟨w.heap.size, 0, none⟩) 2 2, .map (some (w.heap.size + 1))] 101))) := al (Below.refl _ _) _
  have B5 : Hid ((w4.alloc (.cells #[.slice (some ⟨w.heap.size, 0, none⟩) 2 2, .map (some (w.heap.size + 1))] 101)).heap[w4.heap.size]? = some (.cells #[.slice (some ⟨w.heap.size, 0, none⟩) 2 2, .map (some (w.heap.size + 1))] 101 (0, 0))) := heap_alloc_new w4 _
  go_enter Try.func54, Try.ntmps54
  go_wp2
  go_ret
  have hs4 : w.heap.size ≤ w4.heap.size := Nat.le_trans Y2.out.size K4.out.size
  have O4 := own_kept O2.out K4.out (fun k hk e => by
    have e2 : w.heap.size = k := Option.some.inj hk
    omega)
  have bel : Below w.heap.size w w4 := Y2.out.trans (K4.out.below Y2.out.size (fun k hk => by omega))
  have M5 := M4.out.congr (Y5.out.block _ M4.out.lt)
  have O5 := own_below O4 Y5.out
  refine ⟨w4.heap.size, rfl, fun k => k = w4.heap.size ∨ k = w.heap.size ∨ k = w.heap.size + 1, ⟨_, _, ⟨B5.out, own_mono O5 (Nat.zero_le _), M5, .inl rfl, fun k hk => .inr (.inl (Option.some.inj hk).symm), .inr (.inr rfl), fun k hk => ?_, fun k hk cs e => ?_, fun f hf => ?_⟩⟩, fun k hk => ?_, bt bel Y5.out (Nat.le_refl _)⟩
  · rcases hk with e | e | e
    · rw [e]; exact lt_of_block B5.out
    · rw [e]; exact (World.ownsRow.lt O5 w.heap.size rfl).2
    · rw [e]; exact M5.lt
  · rcases hk with hk | hk | hk
    · subst hk; exact ty_ne B5.out e (by decide) rfl
    · subst hk
      obtain ⟨cs', h5⟩ := own_ty O5 w.heap.size rfl
      exact ty_ne h5 e (by decide) rfl
    · subst hk
      obtain ⟨es, cl, h5⟩ := M5.blk
      exact map_ne e h5 rfl
  · simp at hf
    rcases hf with rfl | rfl <;> exact ⟨by decide, by decide⟩
  · omega
end
end Go.Proofs.Ytnddhkhmbjeefaa
