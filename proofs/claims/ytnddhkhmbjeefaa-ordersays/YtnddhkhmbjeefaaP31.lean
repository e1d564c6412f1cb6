/-
  sizes of a diagram by its contract. Condition: at most 12 layers.
-/
import Derived.Test.YtnddhkhmbjeefaaP25
import Derived.Test.YtnddhkhmbjeefaaP30
namespace Go.Proofs.Ytnddhkhmbjeefaa
open Go.RowKit Go.Lib Go.Maps

section
variable {w : World} {B lb lc rc : Nat} {ra : Option Addr} {R : List Int} {Ls : List LA}
set_option maxRecDepth 100000 in
set_option maxHeartbeats 2000000 in
theorem dsizes_any {S : List Int} (hS : SzOk S) (hl : Ls.length ≤ 12) (hw : Wf S (layL Ls)) (D : DgX w B ra lb lc R Ls) :
    Calls Try.prog 62 #[dgV ra R.length rc lb Ls.length lc] w fun e w' => ∃ g, e = .returned (.slice (some ⟨g, 0, none⟩) Ls.length Ls.length) ∧ RwZ w' g (Ls.map fun x => szL S x.lv) ∧ w.heap.size ≤ g ∧ Below w.heap.size w w' := by
  have HD := hide D
  have HW := hide hw
  have HSZ := hide hS
  have hBw := D.hB
  have X1 : Hid (Below w.heap.size w (w.alloc (.cells #[.slice ra R.length rc, .slice (some ⟨lb, 0, none⟩) Ls.length lc] 70))) := al (Below.refl _ _) _
  have D1 : Hid ((w.alloc (.cells #[.slice ra R.length rc, .slice (some ⟨lb, 0, none⟩) Ls.length lc] 70)).heap[w.heap.size]? = some (.cells #[.slice ra R.length rc, .slice (some ⟨lb, 0, none⟩) Ls.length lc] 70 (0, 0))) := heap_alloc_new w _
  have hmk := make_ints Ls.length (Ls.length : Int) rfl (by omega)
  clear D hw hS
  go_enter Try.func62, Try.ntmps62
  go_upto_region 1 with fail
  generalize w.alloc (.cells #[.slice ra R.length rc, .slice (some ⟨lb, 0, none⟩) Ls.length lc] 70) = w1 at *
  have d1 : w1.cell? ⟨w.heap.size, 1, none⟩ = some (.slice (some ⟨lb, 0, none⟩) Ls.length lc) := by rw [cell_of_row w1 _ _ _ _ _ D1.out]; rfl
  have SZ1 : Hid (w.heap.size < w1.heap.size) := lt_of_block D1.out
  go_upto_region 2 with fail
  have X2 : Hid (Below w1.heap.size w1 (w1.alloc (.cells (zC (List.replicate Ls.length 0)).toArray 3))) := al (Below.refl _ _) _
  have Z2 : Hid (RwZ (w1.alloc (.cells (zC (List.replicate Ls.length 0)).toArray 3)) w1.heap.size ([] ++ List.replicate (Ls.length - 0) 0)) := RwZ.made w1 _
  clear d1 hmk
  generalize w1.alloc (.cells (zC (List.replicate Ls.length 0)).toArray 3) = w2 at *
  have d2 : w2.cell? ⟨w.heap.size, 1, none⟩ = some (.slice (some ⟨lb, 0, none⟩) Ls.length lc) := by rw [cell_of_row w2 _ _ _ _ _ ((X2.out.block _ SZ1.out).trans D1.out)]; rfl
  go_wp2
  clear d2
  go_loopw [13] (fun x wr => ∃ k : Nat, k ≤ Ls.length ∧ x = .int .i64 (k : Int) ∧ Hid (RwZ wr w1.heap.size ((Ls.take k).map (fun x => szL S x.lv) ++ List.replicate (Ls.length - k) 0)) ∧ Hid (Below w.heap.size w wr)) (fun x _ => Ls.length - (RowKit.intOf x).toNat)
  case atStart => exact ⟨0, Nat.zero_le _, rfl, Z2, hide (bt X1.out X2.out (Nat.le_refl _))⟩
  case round =>
    obtain ⟨k, hk, rfl, ZK, XK⟩ := hrel
    clear Z2 X2
    by_cases hlt : k < Ls.length
    · have hlt' : (k : Int) < (Ls.length : Int) := by omega
      obtain ⟨q0, q1⟩ := (HD.out.below (XK.out.mono hBw)).lay.at0 hlt
      have Y1 : Hid (Below wr.heap.size wr (wr.alloc (.cells #[.int .i64 (Ls[k]).lv, .slice (some ⟨(Ls[k]).rb, 0, none⟩) (Ls[k]).Rs.length (Ls[k]).rc] 105))) := al (Below.refl _ _) _
      have hrx := (HD.out.below (XK.out.mono hBw)).lay.ly _ (List.getElem_mem hlt)
      obtain ⟨T', hT'⟩ : ∃ T', Wf S ((Ls[k]).lay :: T') := ⟨_, by have := Wf.tail (A := (layL Ls).take k) (by rw [List.take_append_drop]; exact HW.out); rw [layL_drop hlt] at this; exact this⟩
      have h2 : 2 ≤ (Ls[k]).Rs.length := by have := hT'.1.two; simpa [LA.lay, rdR] using this
      have hr0 : ((Ls[k]).Rs[0]).r = [(szL S (Ls[k]).lv, 0)] := by
        have := hT'.1.r0
        simp only [LA.lay, rdR, List.getElem?_map, List.getElem?_eq_getElem (show 0 < (Ls[k]).Rs.length by omega), Option.map_some, Option.some.injEq] at this
        exact this
      have rr0 := hrx.cell (i := 0) (by omega)
      have rrb := (hrx.row _ (List.getElem_mem (show 0 < (Ls[k]).Rs.length by omega)))
      have rcl := (rrb.1.cell (i := 0) rrb.2.1.1.pos).1
      have hr00 : (((Ls[k]).Rs[0]).r[0]'rrb.2.1.1.pos).1 = szL S (Ls[k]).lv := by simp only [hr0, List.getElem_cons_zero]
      rw [hr00] at rcl
      have hl1 : ((Ls[k]).Rs[0]).r.length = 1 := by rw [hr0]; rfl
      rw [hl1] at rr0
      clear hr00 hl1 rrb hr0
      generalize ((Ls[k]).Rs[0]).b = yb at *
      generalize ((Ls[k]).Rs[0]).c = yc at *
      have RBL : Hid ((Ls[k]).rb < wr.heap.size ∧ yb < wr.heap.size) := ⟨World.block_lt_of_cell? _ _ rr0, World.block_lt_of_cell? _ _ rcl⟩
      obtain ⟨sv, hsv⟩ : ∃ sv, szL S (Ls[k]).lv = sv := ⟨_, rfl⟩
      rw [hsv] at rcl
      have HSV := hide hsv
      have h2' : (0 : Int) < ((Ls[k]).Rs.length : Int) := by omega
      have h2'' : 0 < (Ls[k]).Rs.length := by omega
      clear hT' hrx hsv
      have p0 : (wr.alloc (.cells #[.int .i64 (Ls[k]).lv, .slice (some ⟨(Ls[k]).rb, 0, none⟩) (Ls[k]).Rs.length (Ls[k]).rc] 105)).cell? ⟨wr.heap.size, 1, none⟩ = some (.slice (some ⟨(Ls[k]).rb, 0, none⟩) (Ls[k]).Rs.length (Ls[k]).rc) := by simp
      go_upto_region 5 with fail
      clear q0 q1
      have rr1 := (Y1.out.cell (p := ⟨(Ls[k]).rb, 0, none⟩) RBL.out.1).trans rr0
      have rr2 := (Y1.out.cell (p := ⟨yb, 0 * 2, none⟩) RBL.out.2).trans rcl
      rw [Nat.zero_mul] at rr2
      clear rr0 rcl
      have Z3 := hide (ZK.out.below Y1.out)
      have X3 := hide (bt XK.out Y1.out (Nat.le_refl _))
      generalize wr.alloc (.cells #[.int .i64 (Ls[k]).lv, .slice (some ⟨(Ls[k]).rb, 0, none⟩) (Ls[k]).Rs.length (Ls[k]).rc] 105) = w3 at *
      obtain ⟨v0, hv0⟩ : ∃ v0, w3.cell? ⟨w1.heap.size, k, none⟩ = some v0 := ⟨_, Z3.out.cell (k := k) (by simp; omega)⟩
      have f0 := Z3.out.fro k
      have Z4 := hide (Z3.out.next (x := szL S (Ls[k]).lv) (by simp; omega) hlt)
      rw [HSV.out] at Z4
      have HT : Hid ((Ls.take (k + 1)).map (fun x => szL S x.lv) = (Ls.take k).map (fun x => szL S x.lv) ++ [szL S (Ls[k]).lv]) := by unfold Hid; rw [List.take_succ_eq_append_getElem hlt, List.map_append]; rfl
      have ew : IntKind.i64.wrap sv = sv := by
        have h5 := (HW.out.ge (Ls[k]).lv (by simp only [layL, List.map_map]; exact List.mem_map.2 ⟨Ls[k], List.getElem_mem hlt, rfl⟩))
        have h6 := HSZ.out.at h5.1 h5.2
        rw [HSV.out] at h6
        simp [IntKind.wrap, IntKind.bits, IntKind.signed]; omega
      go_wp2
      go_roundw
      case rel => exact ⟨k + 1, by omega, by go_num, by rw [HT.out, HSV.out]; exact Z4, hide (X3.out.setCell (p := ⟨w1.heap.size, k, none⟩) (Nat.le_of_lt SZ1.out) _)⟩
      case measure => simp [RowKit.intOf]; omega
    · have hlt' : ¬ (k : Int) < (Ls.length : Int) := by omega
      obtain rfl : k = Ls.length := by omega
      go_wp2
      go_ret
      have := ZK.out
      rw [List.take_length, Nat.sub_self, List.replicate_zero, List.append_nil] at this
      exact ⟨_, rfl, this, Nat.le_of_lt SZ1.out, XK.out⟩
end
end Go.Proofs.Ytnddhkhmbjeefaa
/-
  build: the rooms for what is known of the rows. No condition.
-/
namespace Go.Proofs.Ytnddhkhmbjeefaa
open Go.RowKit Go.Lib Go.Maps

theorem Try.info22 : (Try.prog.info? 22).map (fun i => (i.zero, i.size, i.bytes)) = some (some (.slice none 0 0), 1, 24) := by kernel_rfl
abbrev lensL (Ls : List LA) : List Nat := Ls.map fun x => x.Rs.length
/-- What the first loop of build keeps: k rooms so far. -/
structure Bd1 (w3 wr : World) (x : BdA) (Ls : List LA) (k : Nat) (mv : Value) (mr : Nat → Nat) : Prop where
  blk : wr.heap[x.b]? = some (.cells #[.pointer (some ⟨x.a, 0, none⟩), .slice (some ⟨x.lb, 0, none⟩) Ls.length x.lc, .slice (some ⟨x.sb, 0, none⟩) Ls.length x.sc, mv] 122 (0, 0))
  row : wr.ownsRow w3.heap.size 22 1 mv k ((List.range k).map fun i => .slice (some ⟨mr i, 0, none⟩) ((lensL Ls).getD i 0) ((lensL Ls).getD i 0))
  mad : ∀ i, i < k → RwZ wr (mr i) (List.replicate ((lensL Ls).getD i 0) 0)
  new : ∀ i, i < k → w3.heap.size ≤ mr i
  inj : ∀ i j, i < k → j < k → mr i = mr j → i = j
  bel : Below w3.heap.size w3 wr
  hb : w3.heap.size ≤ x.b
section
variable {w3 wr w4 w5 w6 : World} {x : BdA} {Ls : List LA} {k : Nat} {mv : Value} {mr : Nat → Nat}
theorem Bd1.below (h : Bd1 w3 wr x Ls k mv mr) (y : Below wr.heap.size wr w4) : Bd1 w3 w4 x Ls k mv mr :=
  ⟨(y.block _ (lt_of_block h.blk)).trans h.blk, own_below h.row y, fun i hi => (h.mad i hi).below y, h.new, h.inj, bt h.bel y (Nat.le_refl _), h.hb⟩
/-- One room more: nb, made behind wr. -/
theorem Bd1.step (h : Bd1 w3 wr x Ls k mv mr) {nb : Nat} (hn : wr.heap.size ≤ nb) (y : Below wr.heap.size wr w5) (z : RwZ w5 nb (List.replicate ((lensL Ls).getD k 0) 0)) {g cap : Nat} (o : w6.ownsRow w3.heap.size 22 1 (.slice (some ⟨g, 0, none⟩) (k + 1) cap) (k + 1) (((List.range k).map fun i => .slice (some ⟨mr i, 0, none⟩) ((lensL Ls).getD i 0) ((lensL Ls).getD i 0)) ++ [.slice (some ⟨nb, 0, none⟩) ((lensL Ls).getD k 0) ((lensL Ls).getD k 0)])) (gr : w5.grownBy w6 mv.ownBlock) :
    Bd1 w3 (w6.setCell ⟨x.b, 3, none⟩ (.slice (some ⟨g, 0, none⟩) (k + 1) cap)) x Ls (k + 1) (.slice (some ⟨g, 0, none⟩) (k + 1) cap) (fun i => if i = k then nb else mr i) := by
  have h5 := h.below y
  have k6 : Kept (fun q => mv.ownBlock = some q) w5 w6 := kept_of_grown gr
  have nt : ∀ {q : Nat} {cs : Array Value} {T : TypeId}, w5.heap[q]? = some (.cells cs T (0, 0)) → T ≠ 22 → w6.heap[q]? = some (.cells cs T (0, 0)) := fun {q cs T} hb hT => (k6.block q (lt_of_block hb) (fun hz => by
    obtain ⟨cs', h5'⟩ := own_ty h5.row _ hz
    exact ty_ne h5' hb (fun e => hT e.symm) rfl)).trans hb
  have b6 := nt h5.blk (by decide)
  have k7 : Kept (fun q => q = x.b) w6 (w6.setCell ⟨x.b, 3, none⟩ (.slice (some ⟨g, 0, none⟩) (k + 1) cap)) := Kept.setCell (F := fun q => q = x.b) (p := ⟨x.b, 3, none⟩) (Kept.refl _ _) rfl _
  have m7 : ∀ {q : Nat} {L : List Int}, RwZ w5 q L → RwZ (w6.setCell ⟨x.b, 3, none⟩ (.slice (some ⟨g, 0, none⟩) (k + 1) cap)) q L := fun {q L} hq => by
    have q6 : RwZ w6 q L := nt hq (by decide)
    exact q6.kept k7 (fun e => ty_ne q6 b6 (by decide) e)
  have bel6 : Below w3.heap.size w3 w6 := h5.bel.trans (k6.below h5.bel.size (fun q hq => (World.ownsRow.lt h5.row q hq).1))
  refine ⟨?_, ?_, fun i hi => ?_, fun i hi => ?_, fun i j hi hj e => ?_, bel6.trans (k7.below bel6.size (fun q hq => by rw [hq]; exact h.hb)), h.hb⟩
  · have := block_setCell b6 3 (.slice (some ⟨g, 0, none⟩) (k + 1) cap)
    simpa using this
  · have e : ((List.range (k + 1)).map fun i => (Value.slice (some ⟨if i = k then nb else mr i, 0, none⟩) ((lensL Ls).getD i 0) ((lensL Ls).getD i 0))) = ((List.range k).map fun i => .slice (some ⟨mr i, 0, none⟩) ((lensL Ls).getD i 0) ((lensL Ls).getD i 0)) ++ [.slice (some ⟨nb, 0, none⟩) ((lensL Ls).getD k 0) ((lensL Ls).getD k 0)] := by
      rw [List.range_succ, List.map_append]
      congr 1
      · refine List.map_congr_left (fun i hi => ?_)
        have := List.mem_range.1 hi
        rw [if_neg (by omega)]
      · simp
    rw [e]
    exact own_kept o k7 (fun q hq e => by
      obtain ⟨cs', h5'⟩ := own_ty o _ hq
      exact ty_ne h5' b6 (by decide) e)
  · by_cases e : i = k
    · subst e
      simp only [if_true]
      exact m7 z
    · simp only [if_neg e]
      exact m7 (h5.mad i (by omega))
  · by_cases e : i = k
    · simp only [if_pos e]; exact Nat.le_trans h.bel.size hn
    · simp only [if_neg e]; exact h.new i (by omega)
  · by_cases ei : i = k <;> by_cases ej : j = k
    · omega
    · simp only [if_pos ei, if_neg ej] at e
      have := (h.mad j (by omega)).lt
      omega
    · simp only [if_neg ei, if_pos ej] at e
      have := (h.mad i (by omega)).lt
      omega
    · simp only [if_neg ei, if_neg ej] at e
      exact h.inj i j (by omega) (by omega) e
theorem Bd1.bdx {b a lb lc sb sc mc B : Nat} {ma : Option Addr} {S : List Int} {M : Int} {P : Nat → Prop} (h : Bd1 w3 wr ⟨b, a, lb, lc, sb, sc, 0, 0, fun _ => 0, fun _ => 0⟩ Ls Ls.length (.slice ma Ls.length mc) mr) (hn : 0 < Ls.length) (hB : B ≤ w3.heap.size) (lay : LaysAt w3 B lb 0 Ls) (sz : ZBk w3 sb (ledS S (ordL Ls))) (hsb : ¬ P sb) (ar : CA w3 a (ledS S (ordL Ls)) M [] 0 P) (hp : ∀ k, P k → B ≤ k) :
    ∃ mb, ma = some ⟨mb, 0, none⟩ ∧ BdX wr B ⟨b, a, lb, lc, sb, sc, mb, mc, mr, fun i => (lensL Ls).getD i 0⟩ S M Ls [] (fun i => List.replicate ((lensL Ls).getD i 0) 0) P := by
  obtain ⟨ao, cap, e, hg⟩ := own_shape h.row
  injection e with e1 _ e3
  subst e1 e3
  obtain ⟨mb, rfl⟩ := hg hn
  have hmb := World.ownsRow.lt h.row mb rfl
  have hlen : ∀ i (hi : i < Ls.length), (lensL Ls).getD i 0 = (Ls[i]).Rs.length := fun i hi => by simp [lensL, List.getD_eq_getElem?_getD, List.getElem?_map, List.getElem?_eq_getElem hi]
  obtain ⟨cs, hcs⟩ := own_ty h.row mb rfl
  have hsz := sz.lt
  have np : ∀ {q : Nat}, w3.heap.size ≤ q → ¬ P q := fun hq hp' => by
    have := ar.plt hp'
    omega
  refine ⟨mb, rfl, ⟨h.blk, lay.below (h.bel.mono hB), sz.below h.bel, ⟨cs, hcs, fun i hi => ?_⟩, fun i hi => ⟨(h.mad i hi).zbk, by rw [List.length_replicate]; exact hlen i hi⟩, ar.below h.bel, ⟨np h.hb, hsb, np hmb.1⟩, fun i hi => np (h.new i hi), hp, Nat.le_trans hB h.bel.size, h.inj, fun i hi => ⟨Nat.le_trans hB (h.new i hi), fun e => ?_⟩, fun i hi t ht => .inl ?_⟩⟩
  · have c := World.ownsRow.cellAt h.row i (by omega)
    rw [cell_of_row wr mb _ _ _ _ hcs] at c
    rw [c]
    rw [List.getElem?_map, List.getElem?_range hi, Option.map_some]
    show some (Value.slice (some ⟨mr i, 0, none⟩) ((lensL Ls).getD i 0) ((lensL Ls).getD i 0)) = some (Value.slice (some ⟨mr i, 0, none⟩) (Ls[i]).Rs.length ((lensL Ls).getD i 0))
    rw [hlen i hi]
  · have := h.new i hi
    have e' : mr i = sb := e
    omega
  · rw [List.length_replicate] at ht
    rw [List.getD_eq_getElem?_getD, List.getElem?_replicate, if_pos ht]
    rfl
end
end Go.Proofs.Ytnddhkhmbjeefaa
