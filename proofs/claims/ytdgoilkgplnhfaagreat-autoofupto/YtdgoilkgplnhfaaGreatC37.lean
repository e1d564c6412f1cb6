/-
  What marks say: a text can be cut so that each piece takes its part. No condition.
-/
import Derived.Test.YtdgoilkgplnhfaaGreatC36
import Derived.Test.YtdgoilkgplnhfaaGreatC19
import Derived.Test.YtdgoilkgplnhfaaGreatC08
set_option maxRecDepth 100000
set_option maxHeartbeats 16000000
namespace Go.Proofs.YtdgoilkgplnhfaaGreat
section
variable (L : List Pc)
def mM (i : Nat) : Bool := manyK (L.getD i zPc).kind
def mT (i : Nat) (c : UInt8) : Bool := tkB (L.getD i zPc) ((c.toNat : Nat) : Int)
def rm : Nat → By → Bool
 | 0, [] => true
 | 0, _ :: _ => false
 | i + 1, [] => mM L i && rm i []
 | i + 1, c :: v => if mM L i then rm i (c :: v) || (mT L i c && rm (i + 1) v) else mT L i c && rm i v
termination_by i v => (v.length, i)
end
theorem afF_congr {L : List Pc} {f g : Nat → Bool} {b b' : Int} : ∀ (n : Nat), (∀ j, j < n → f j = g j) → (∀ j, j < n → tkB (L.getD j zPc) b = tkB (L.getD j zPc) b') → afF L f b n = afF L g b' n
 | 0, _, _ => rfl
 | n + 1, h, k => by
   have ih := afF_congr n (fun j hj => h j (by omega)) (fun j hj => k j (by omega))
   have e1 := h n (by omega)
   have e2 := k n (by omega)
   unfold zPc at e2
   unfold afF
   rw [ih, e1, e2]
def plL (f : Nat → Bool) : List Bool := (List.range 65).map f
def plF (B : List Bool) : Nat → Bool := fun i => B.getD i false
theorem plL_len (f : Nat → Bool) : (plL f).length = 65 := by simp [plL]
theorem plF_plL (f : Nat → Bool) {i : Nat} (h : i < 65) : plF (plL f) i = f i := by
 unfold plF plL
 simp [List.getD_eq_getElem?_getD, h]
theorem plL_plF {B : List Bool} (h : B.length = 65) : plL (plF B) = B := by
 apply List.ext_getElem
 · rw [plL_len, h]
 · intro i h1 h2
   unfold plL plF
   simp [List.getD_eq_getElem?_getD, h2]
theorem mk_plF (f : Nat → Bool) : mk (plF (plL f)) = mk f := by
 unfold mk
 congr 1
theorem mk_inj {A B : List Bool} (ha : A.length = 65) (hb : B.length = 65) (h : mk (plF A) = mk (plF B)) : A = B := by
 apply List.ext_getElem
 · omega
 · intro i h1 h2
   have e : (mk (plF A))[i]? = (mk (plF B))[i]? := by rw [h]
   rw [mk_get _ i (by omega), mk_get _ i (by omega)] at e
   have e2 : plF A i = plF B i := by injection e with e; injection e
   unfold plF at e2
   simpa [List.getD_eq_getElem?_getD, h1, h2] using e2
def plS (L : List Pc) (B : List Bool) (b : Nat) : List Bool := plL (stF L (plF B) (UInt8.ofNat b))
theorem stF_congr {L : List Pc} {f g : Nat → Bool} {b b' : UInt8} (h : ∀ j, j < L.length → f j = g j) (k : ∀ j, j < L.length → tkB (L.getD j zPc) ((b.toNat : Nat) : Int) = tkB (L.getD j zPc) ((b'.toNat : Nat) : Int)) : stF L f b = stF L g b' := by
 unfold stF
 rw [afF_congr L.length h k]
theorem plS_plL {L : List Pc} (hl : L.length ≤ 64) (f : Nat → Bool) (b : Nat) : plS L (plL f) b = plL (stF L f (UInt8.ofNat b)) := by
 unfold plS
 rw [stF_congr (fun j hj => plF_plL f (by omega)) (fun _ _ => rfl)]
theorem one_takes (p : Pc) (b : UInt8) : mtF [p] [b] 1 = tkB p ((b.toNat : Nat) : Int) := by
 have e : ([p] : List Pc).getD 0 ⟨0, 0, false, []⟩ = p := rfl
 simp only [mtF, stF, List.foldl_cons, List.foldl_nil, List.length_cons, List.length_nil, Nat.zero_add, clF, afF, e]
 cases hm : manyK p.kind <;> cases ht : tkB p ((b.toNat : Nat) : Int) <;> simp [upd]
theorem mtF_pl {L : List Pc} (hl : L.length ≤ 64) : ∀ (t : By) (f : Nat → Bool), (ntL t).foldl (plS L) (plL f) = plL (t.foldl (stF L) f)
 | [], f => rfl
 | c :: t, f => by
   show (ntL t).foldl (plS L) (plS L (plL f) c.toNat) = _
   rw [plS_plL hl]
   have : UInt8.ofNat c.toNat = c := by simp
   rw [this]
   exact mtF_pl hl t _
end Go.Proofs.YtdgoilkgplnhfaaGreat
namespace Go.Proofs.YtdgoilkgplnhfaaGreat
open Go.RowKit Go.Lib
theorem Tryz.info80 : (Tryz.prog.info? 80).map (fun i => (i.zero, i.size)) = some (some (.agg (mk fun _ => false)), 65) := by kernel_rfl
theorem many6_any (k b : Int) (no : Bool) (so : Option Addr) (n c : Nat) (w : World) : Calls Tryz.prog 86 #[.agg #[.int .i64 k, .int .i64 b, .bool no, .slice so n c]] w fun e w' => e = .returned (.bool (manyK k)) ∧ Below w.heap.size w w' := by
 by_cases h4 : k = 4
 · have HE : Hid (manyK k = true) := by simp [Hid, manyK, h4]
   go_enter Tryz.func86, Tryz.ntmps86
   go_wp2
   go_ret
   exact ⟨by rw [HE.out]; rfl, al (Below.refl _ _) _⟩
 · by_cases h5 : k = 5
   · have HE : Hid (manyK k = true) := by simp [Hid, manyK, h5]
     go_enter Tryz.func86, Tryz.ntmps86
     go_wp2
     go_ret
     exact ⟨by rw [HE.out]; rfl, al (Below.refl _ _) _⟩
   · go_enter Tryz.func86, Tryz.ntmps86
     go_wp2
     go_ret
     refine ⟨?_, al (Below.refl _ _) _⟩
     show Ending.returned (Value.bool (k == 4 || k == 5)) = _
     simp [manyK, h4, h5]
theorem closed6_any (ao : Option Addr) (cap : Nat) (D : List PD) (f : Nat → Bool) (w : World) (hl : D.length ≤ 64) (hat : PcAt w ao D) :
 Calls Tryz.prog 85 #[.slice ao D.length cap, .agg (mk f)] w fun e w' => e = .returned (.agg (mk (clF (D.map PD.p) f D.length))) ∧ Below w.heap.size w w' := by
 obtain ⟨hzv, hsz⟩ := zero_of_info Tryz.info80
 have hs := mk_size f
 have HAT := hide hat
 have HXS : Hid (Below w.heap.size w ((w.alloc (.cells (mk f) 80)).alloc (.cells (mk fun _ => false) 80))) := al (al (Below.refl _ _) _) _
 have B0 : Hid (((w.alloc (.cells (mk f) 80)).alloc (.cells (mk fun _ => false) 80)).heap[w.heap.size]? = some (.cells (mk f) 80 (0, 0))) := ((al (Below.refl _ _) (.cells (mk fun _ => false) 80) : Below (w.alloc (.cells (mk f) 80)).heap.size (w.alloc (.cells (mk f) 80)) _).block _ (by simp)).trans (heap_alloc_new _ _)
 have B1 : Hid (((w.alloc (.cells (mk f) 80)).alloc (.cells (mk fun _ => false) 80)).heap[w.heap.size + 1]? = some (.cells (mk fun _ => false) 80 (0, 0))) := by
  have := heap_alloc_new (w.alloc (.cells (mk f) 80)) (.cells (mk fun _ => false) 80)
  rwa [show (w.alloc (.cells (mk f) 80)).heap.size = w.heap.size + 1 by simp] at this
 have HZS := hide (mk_size fun _ => false)
 obtain ⟨a, ha⟩ : ∃ a, Hid (a = mk f) := ⟨_, rfl⟩
 obtain ⟨z, hz⟩ : ∃ z, Hid (z = mk fun _ => false) := ⟨_, rfl⟩
 rw [← ha.out] at hs HXS B0 B1 ⊢
 rw [← hz.out] at hzv HXS B0 B1 HZS
 clear hat
 go_enter Tryz.func85, Tryz.ntmps85
 go_wp2
 go_loopw [9] (fun x wr => ∃ k : Nat, k ≤ D.length ∧ x = .int .i64 k ∧ Hid (wr.heap[w.heap.size]? = some (.cells (mk (clF (D.map PD.p) f k)) 80 (0, 0))) ∧ Hid (wr.heap[w.heap.size + 1]? = some (.cells z 80 (0, 0))) ∧ Hid (Below w.heap.size w wr)) (fun x _ => D.length - (RowKit.intOf x).toNat)
 case atStart => exact ⟨0, Nat.zero_le _, rfl, by have h0 : a = mk (clF (D.map PD.p) f 0) := ha.out; rw [← h0]; exact B0, B1, HXS⟩
 case round =>
  obtain ⟨k, hk, rfl, BA, BZ, X⟩ := hrel
  rename World => wr
  by_cases hlt : k < D.length
  · have hlt' : (k : Int) < (D.length : Int) := by omega
    have h65 : (k : Int) < 65 := by omega
    have h66 : (k : Int) + 1 < 65 := by omega
    rcases HAT.out with h | ⟨b, off, rfl, hb, hc⟩
    · rw [h] at hlt; simp at hlt
    obtain ⟨p0, p1, p2, p3, _⟩ := hc k hlt
    have hbw : b < wr.heap.size := Nat.lt_of_lt_of_le hb X.out.size
    have r0 := (X.out.cell (p := ⟨b, off + k * 4, none⟩) hb).trans p0
    have r1 := (X.out.cell (p := ⟨b, off + k * 4 + 1, none⟩) hb).trans p1
    have r2 := (X.out.cell (p := ⟨b, off + k * 4 + 2, none⟩) hb).trans p2
    have r3 := (X.out.cell (p := ⟨b, off + k * 4 + 3, none⟩) hb).trans p3
    have HY := hide (fun h1 h2 => clF_yes (D := D) (f := f) (k := k) hlt h1 h2)
    have HN := hide (fun h1 => clF_no (D := D) (f := f) (k := k) hlt h1)
    have HMN := hide (fun w => many6_any D[k].p.kind D[k].p.b D[k].p.no D[k].so D[k].p.set.length D[k].sc w)
    generalize D[k].p.kind = kd at *
    generalize D[k].p.b = kb at *
    generalize D[k].p.no = kn at *
    generalize D[k].p.set.length = kl at *
    generalize D[k].so = ks at *
    generalize D[k].sc = kc at *
    have X4 := hide (al (Below.refl wr.heap.size wr) (.cells #[.int .i64 kd, .int .i64 kb, .bool kn, .slice ks kl kc] 96))
    have BA4 := hide ((X4.out.block _ (lt_of_block BA.out)).trans BA.out)
    have c0 : (wr.alloc (.cells #[.int .i64 kd, .int .i64 kb, .bool kn, .slice ks kl kc] 96)).cell? ⟨w.heap.size, k, none⟩ = some (.bool (clF (D.map PD.p) f k k)) := by rw [cell_of_row _ _ _ _ _ _ BA4.out]; exact mk_get _ _ (by omega)
    clear hc p0 p1 p2 p3
    cases hf : clF (D.map PD.p) f k k with
    | false =>
      have HE := hide (HN.out (by rw [hf, Bool.false_and]))
      rw [hf] at c0
      go_wp2
      go_roundw
      case rel => exact ⟨k + 1, by omega, by go_num, by unfold Hid; rw [HE.out]; exact BA4.out, (X4.out.block _ (lt_of_block BZ.out)).trans BZ.out, bt X.out X4.out (Nat.le_refl _)⟩
      case measure => simp [RowKit.intOf]; omega
    | true =>
      rw [hf] at c0
      cases hm : manyK kd with
      | false =>
        have HE := hide (HN.out (by rw [hm, Bool.and_false]))
        rw [hm] at HMN
        go_wp2_with (go_at_call 86; refine (HMN.out _).mono ?_; rintro e w5 ⟨rfl, x5⟩; have X5 := hide (bt X4.out x5 (Nat.le_refl _)); clear x5)
        go_roundw
        case rel => exact ⟨k + 1, by omega, by go_num, by unfold Hid; rw [HE.out]; exact (X5.out.block _ (lt_of_block BA.out)).trans BA.out, (X5.out.block _ (lt_of_block BZ.out)).trans BZ.out, bt X.out X5.out (Nat.le_refl _)⟩
        case measure => simp [RowKit.intOf]; omega
      | true =>
        have HE := hide (HY.out hf hm)
        rw [hm] at HMN
        go_wp2_with (go_at_call 86; refine (HMN.out _).mono ?_; rintro e w5 ⟨rfl, x5⟩; have X5 := hide (bt X4.out x5 (Nat.le_refl _)); have BA5 := hide ((X5.out.block _ (lt_of_block BA.out)).trans BA.out); have d1 : w5.cell? ⟨w.heap.size, k + 1, none⟩ = some (.bool (clF (D.map PD.p) f k (k + 1))) := (by rw [cell_of_row _ _ _ _ _ _ BA5.out]; exact mk_get _ _ (by omega)); have g1 := frozen_of_row _ _ (k + 1) _ _ BA5.out; clear x5)
        go_roundw
        case rel =>
         have hk6 : Kept (fun i => i = w.heap.size) w5 (w5.setCell ⟨w.heap.size, k + 1, none⟩ (.bool true)) := Kept.setCell (F := fun i => i = w.heap.size) (p := ⟨w.heap.size, k + 1, none⟩) (Kept.refl _ _) rfl _
         have B5Z := (X5.out.block _ (lt_of_block BZ.out)).trans BZ.out
         refine ⟨k + 1, by omega, by go_num, ?_, (hk6.block _ (lt_of_block B5Z) (by omega)).trans B5Z, ?_⟩
         · unfold Hid
           rw [HE.out, ← mk_set]
           exact block_setCell BA5.out (k + 1) _
         · exact (bt X.out X5.out (Nat.le_refl _)).trans (hk6.below (Nat.le_trans X.out.size X5.out.size) (fun i hi => by omega))
        case measure => simp [RowKit.intOf]; omega
  · have hnl : ¬ (k : Int) < (D.length : Int) := by omega
    have hkl : k = D.length := by omega
    subst hkl
    have HI : Hid ((Tryz.prog.info? 80).map (·.size) = some (mk (clF (D.map PD.p) f D.length)).size) := by unfold Hid; rw [hsz, mk_size]
    have HZ2 : Hid (z.size = (mk (clF (D.map PD.p) f D.length)).size) := by unfold Hid; rw [HZS.out, mk_size]
    have HAL := hide (mk_all (clF (D.map PD.p) f D.length))
    have HBN := hide (setRow_heap wr (w.heap.size + 1) z (mk (clF (D.map PD.p) f D.length)) 80 (0, 0) BZ.out)
    have HXN := hide (below_setRow X.out (Nat.le_succ _) (mk (clF (D.map PD.p) f D.length)))
    clear hzv hsz hs
    obtain ⟨m, hm⟩ : ∃ m, Hid (m = mk (clF (D.map PD.p) f D.length)) := ⟨_, rfl⟩
    rw [← hm.out] at HI HZ2 HAL HBN HXN BA
    go_wp2_with (first
     | (refine wpList_load_row rfl 80 (.tmp 3) rfl w.heap.size rfl 80 m (0, 0) _ BA.out Tryz.underlying80 rfl HI.out ?_)
     | (refine wpList_store_row rfl 80 (.tmp 4) (.tmp 27) rfl (w.heap.size + 1) m rfl rfl 80 z BZ.out HI.out HZ2.out HAL.out ?_))
    refine bodyPost_ret (v := .agg m) (results_cell_row rfl _ _ (w.heap.size + 1) 80 m (0, 0) _ rfl HBN.out Tryz.underlying80 rfl HI.out) rfl ?_
    exact ⟨by rw [hm.out], HXN.out⟩
def agF (L : List Pc) (f g : Nat → Bool) : Nat → (Nat → Bool)
 | 0 => fun _ => false
 | k + 1 => if f k && g k then (if manyK (L.getD k ⟨0, 0, false, []⟩).kind then upd (agF L f g k) k else upd (agF L f g k) (k + 1)) else agF L f g k
theorem agF_no {D : List PD} {f g : Nat → Bool} {k : Nat} (h1 : (f k && g k) = false) : agF (D.map PD.p) f g (k + 1) = agF (D.map PD.p) f g k := by
 conv => lhs; unfold agF
 rw [h1]
 rfl
theorem agF_many {D : List PD} {f g : Nat → Bool} {k : Nat} (h : k < D.length) (h1 : f k = true) (h2 : g k = true) (h3 : manyK D[k].p.kind = true) : agF (D.map PD.p) f g (k + 1) = upd (agF (D.map PD.p) f g k) k := by
 conv => lhs; unfold agF
 rw [h1, h2, getD_map D k h, h3]
 rfl
theorem agF_one {D : List PD} {f g : Nat → Bool} {k : Nat} (h : k < D.length) (h1 : f k = true) (h2 : g k = true) (h3 : manyK D[k].p.kind = false) : agF (D.map PD.p) f g (k + 1) = upd (agF (D.map PD.p) f g k) (k + 1) := by
 conv => lhs; unfold agF
 rw [h1, h2, getD_map D k h, h3]
 rfl
def mk64 (g : Nat → Bool) : Array Value := ((List.range 64).map fun i => Value.bool (g i)).toArray
theorem mk64_size (g : Nat → Bool) : (mk64 g).size = 64 := by simp [mk64]
theorem mk64_get (g : Nat → Bool) (i : Nat) (h : i < 64) : (mk64 g)[i]? = some (.bool (g i)) := by
 unfold mk64
 simp [h]
theorem mk64_all (g : Nat → Bool) : (mk64 g).all (·.oneCell') = true := by
 unfold mk64
 simp [Value.oneCell']
structure AgS (w : World) (D : List PD) (f g : Nat → Bool) (z : Array Value) (k : Nat) (wr : World) : Prop where
 at' : wr.heap[w.heap.size]? = some (.cells (mk f) 80 (0, 0))
 tk : wr.heap[w.heap.size + 1]? = some (.cells (mk64 g) 73 (0, 0))
 res : wr.heap[w.heap.size + 2]? = some (.cells z 80 (0, 0))
 nx : wr.heap[w.heap.size + 3]? = some (.cells (mk (agF (D.map PD.p) f g k)) 80 (0, 0))
 bel : Below w.heap.size w wr
theorem AgS.next {w : World} {D : List PD} {f g : Nat → Bool} {z : Array Value} {k : Nat} {wr w' : World} (h : AgS w D f g z k wr) (x : Below wr.heap.size wr w') (he : agF (D.map PD.p) f g (k + 1) = agF (D.map PD.p) f g k) : AgS w D f g z (k + 1) w' :=
 ⟨(x.block _ (lt_of_block h.at')).trans h.at', (x.block _ (lt_of_block h.tk)).trans h.tk, (x.block _ (lt_of_block h.res)).trans h.res, by rw [he]; exact (x.block _ (lt_of_block h.nx)).trans h.nx, bt h.bel x (Nat.le_refl _)⟩
theorem AgS.put {w : World} {D : List PD} {f g : Nat → Bool} {z : Array Value} {k : Nat} {wr w' : World} (h : AgS w D f g z k wr) (x : Below wr.heap.size wr w') (j : Nat) (he : agF (D.map PD.p) f g (k + 1) = upd (agF (D.map PD.p) f g k) j) : AgS w D f g z (k + 1) (w'.setCell ⟨w.heap.size + 3, j, none⟩ (.bool true)) := by
 have hk6 : Kept (fun i => i = w.heap.size + 3) w' (w'.setCell ⟨w.heap.size + 3, j, none⟩ (.bool true)) := Kept.setCell (F := fun i => i = w.heap.size + 3) (p := ⟨w.heap.size + 3, j, none⟩) (Kept.refl _ _) rfl _
 have b1 := (x.block _ (lt_of_block h.at')).trans h.at'
 have b4 := (x.block _ (lt_of_block h.tk)).trans h.tk
 have b2 := (x.block _ (lt_of_block h.res)).trans h.res
 have b3 := (x.block _ (lt_of_block h.nx)).trans h.nx
 refine ⟨(hk6.block _ (lt_of_block b1) (by omega)).trans b1, (hk6.block _ (lt_of_block b4) (by omega)).trans b4, (hk6.block _ (lt_of_block b2) (by omega)).trans b2, ?_, (bt h.bel x (Nat.le_refl _)).trans (hk6.below (Nat.le_trans h.bel.size x.size) (fun i hi => by omega))⟩
 rw [he, ← mk_set]
 exact block_setCell b3 j _
theorem AgS.cell {w : World} {D : List PD} {f g : Nat → Bool} {z : Array Value} {k : Nat} {wr w' : World} (h : AgS w D f g z k wr) (x : Below wr.heap.size wr w') (j : Nat) (hj : j < 65) : w'.cell? ⟨w.heap.size + 3, j, none⟩ = some (.bool (agF (D.map PD.p) f g k j)) ∧ w'.frozen? ⟨w.heap.size + 3, j, none⟩ = false := by
 have b3 := (x.block _ (lt_of_block h.nx)).trans h.nx
 exact ⟨by rw [cell_of_row _ _ _ _ _ _ b3]; exact mk_get _ _ hj, frozen_of_row _ _ _ _ _ b3⟩
theorem agS_start (w : World) (D : List PD) (f g : Nat → Bool) (z : Array Value) (hz : z = mk fun _ => false) : AgS w D f g z 0 ((((w.alloc (.cells (mk f) 80)).alloc (.cells (mk64 g) 73)).alloc (.cells z 80)).alloc (.cells z 80)) := by
 have e1 : (w.alloc (.cells (mk f) 80)).heap.size = w.heap.size + 1 := by simp
 have x1 : Below w.heap.size w (w.alloc (.cells (mk f) 80)) := al (Below.refl _ _) _
 have b1 := heap_alloc_new w (.cells (mk f) 80)
 generalize w.alloc (.cells (mk f) 80) = w1 at *
 have e2 : (w1.alloc (.cells (mk64 g) 73)).heap.size = w1.heap.size + 1 := by simp
 have x2 : Below w1.heap.size w1 (w1.alloc (.cells (mk64 g) 73)) := al (Below.refl _ _) _
 have b2 := heap_alloc_new w1 (.cells (mk64 g) 73)
 generalize w1.alloc (.cells (mk64 g) 73) = w2 at *
 have e3 : (w2.alloc (.cells z 80)).heap.size = w2.heap.size + 1 := by simp
 have x3 : Below w2.heap.size w2 (w2.alloc (.cells z 80)) := al (Below.refl _ _) _
 have b3 := heap_alloc_new w2 (.cells z 80)
 generalize w2.alloc (.cells z 80) = w3 at *
 have x4 : Below w3.heap.size w3 (w3.alloc (.cells z 80)) := al (Below.refl _ _) _
 have b4 := heap_alloc_new w3 (.cells z 80)
 rw [e1] at b2
 rw [e2, e1] at b3
 rw [e3, e2, e1] at b4
 have y3 := bt x3 x4 (Nat.le_refl _)
 have y2 := bt x2 y3 (Nat.le_refl _)
 exact ⟨(y2.block _ (by omega)).trans b1, (y3.block _ (by omega)).trans b2, (x4.block _ (by omega)).trans b3, by rw [hz] at b4 ⊢; exact b4, bt x1 y2 (Nat.le_refl _)⟩
theorem after6_any (ao : Option Addr) (cap : Nat) (D : List PD) (f g : Nat → Bool) (w : World) (hl : D.length ≤ 64) (hat : PcAt w ao D) :
 Calls Tryz.prog 47 #[.slice ao D.length cap, .agg (mk f), .agg (mk64 g)] w fun e w' => e = .returned (.agg (mk (clF (D.map PD.p) (agF (D.map PD.p) f g D.length) D.length))) ∧ Below w.heap.size w w' := by
 obtain ⟨hzv, hsz⟩ := zero_of_info Tryz.info80
 have hs := mk_size f
 have hs2 := mk64_size g
 have HAT := hide hat
 have HZS := hide (mk_size fun _ => false)
 obtain ⟨z, hz⟩ : ∃ z, Hid (z = mk fun _ => false) := ⟨_, rfl⟩
 have S0 := hide (agS_start w D f g z hz.out)
 obtain ⟨a, ha⟩ : ∃ a, Hid (a = mk f) := ⟨_, rfl⟩
 obtain ⟨a2, ha2⟩ : ∃ a2, Hid (a2 = mk64 g) := ⟨_, rfl⟩
 rw [← ha.out] at hs S0 ⊢
 rw [← ha2.out] at hs2 S0 ⊢
 rw [← hz.out] at hzv HZS
 clear hat
 go_enter Tryz.func47, Tryz.ntmps47
 go_wp2
 go_loopw [12] (fun x wr => ∃ k : Nat, k ≤ D.length ∧ x = .int .i64 k ∧ Hid (AgS w D f g z k wr)) (fun x _ => D.length - (RowKit.intOf x).toNat)
 case atStart => exact ⟨0, Nat.zero_le _, rfl, S0⟩
 case round =>
  obtain ⟨k, hk, rfl, S⟩ := hrel
  rename World => wr
  by_cases hlt : k < D.length
  · have hlt' : (k : Int) < (D.length : Int) := by omega
    have h64 : (k : Int) < 64 := by omega
    have h65 : (k : Int) < 65 := by omega
    have h66 : (k : Int) + 1 < 65 := by omega
    have w66 : IntKind.i64.wrap ((k : Int) + 1) = (k : Int) + 1 := by simp [IntKind.wrap, IntKind.bits, IntKind.signed]; omega
    have X := hide S.out.bel
    rcases HAT.out with h | ⟨pb, off, rfl, hb, hc⟩
    · rw [h] at hlt; simp at hlt
    obtain ⟨p0, p1, p2, p3, p4⟩ := hc k hlt
    have hbw : pb < wr.heap.size := Nat.lt_of_lt_of_le hb X.out.size
    have r0 := (X.out.cell (p := ⟨pb, off + k * 4, none⟩) hb).trans p0
    have r1 := (X.out.cell (p := ⟨pb, off + k * 4 + 1, none⟩) hb).trans p1
    have r2 := (X.out.cell (p := ⟨pb, off + k * 4 + 2, none⟩) hb).trans p2
    have r3 := (X.out.cell (p := ⟨pb, off + k * 4 + 3, none⟩) hb).trans p3
    have HNO := hide (fun h1 => agF_no (D := D) (f := f) (g := g) (k := k) h1)
    have HMA := hide (fun h1 h2 h3 => agF_many (D := D) (f := f) (g := g) (k := k) hlt h1 h2 h3)
    have HON := hide (fun h1 h2 h3 => agF_one (D := D) (f := f) (g := g) (k := k) hlt h1 h2 h3)
    generalize D[k] = d at *
    obtain ⟨⟨kd, kb, kn, kS⟩, ks, kc⟩ := d
    simp only at r0 r1 r2 r3 HNO HMA HON
    clear hc p0 p1 p2 p3 p4
    have HMN := hide (fun w => many6_any kd kb kn ks kS.length kc w)
    have X4 := hide (al (Below.refl wr.heap.size wr) (.cells #[.int .i64 kd, .int .i64 kb, .bool kn, .slice ks kS.length kc] 96))
    have BA4 := hide ((X4.out.block _ (lt_of_block S.out.at')).trans S.out.at')
    have BT4 := hide ((X4.out.block _ (lt_of_block S.out.tk)).trans S.out.tk)
    have c0 : (wr.alloc (.cells #[.int .i64 kd, .int .i64 kb, .bool kn, .slice ks kS.length kc] 96)).cell? ⟨w.heap.size, k, none⟩ = some (.bool (f k)) := by rw [cell_of_row _ _ _ _ _ _ BA4.out]; exact mk_get _ _ (by omega)
    have c1 : (wr.alloc (.cells #[.int .i64 kd, .int .i64 kb, .bool kn, .slice ks kS.length kc] 96)).cell? ⟨w.heap.size + 1, k, none⟩ = some (.bool (g k)) := by rw [cell_of_row _ _ _ _ _ _ BT4.out]; exact mk64_get _ _ (by omega)
    cases hf : f k with
    | false =>
      have HE := hide (HNO.out (by rw [hf, Bool.false_and]))
      rw [hf] at c0
      go_wp2
      go_roundw
      case rel => exact ⟨k + 1, by omega, by go_num, S.out.next X4.out HE.out⟩
      case measure => simp [RowKit.intOf]; omega
    | true =>
      rw [hf] at c0
      cases hg : g k with
      | false =>
        have HE := hide (HNO.out (by rw [hg, Bool.and_false]))
        rw [hg] at c1
        go_wp2
        go_roundw
        case rel => exact ⟨k + 1, by omega, by go_num, S.out.next X4.out HE.out⟩
        case measure => simp [RowKit.intOf]; omega
      | true =>
        rw [hg] at c1
        cases hm : manyK kd with
        | false =>
          have HE := hide (HON.out hf hg hm)
          rw [hm] at HMN
          go_wp2_with (go_at_call 86; refine (HMN.out _).mono ?_; rintro e w6 ⟨rfl, x6⟩; have X6 := hide (bt X4.out x6 (Nat.le_refl _)); obtain ⟨e1, e2⟩ := S.out.cell X6.out (k + 1) (by omega); clear x6)
          go_roundw
          case rel => exact ⟨k + 1, by omega, by go_num, S.out.put X6.out _ HE.out⟩
          case measure => simp [RowKit.intOf]; omega
        | true =>
          have HE := hide (HMA.out hf hg hm)
          rw [hm] at HMN
          go_wp2_with (go_at_call 86; refine (HMN.out _).mono ?_; rintro e w6 ⟨rfl, x6⟩; have X6 := hide (bt X4.out x6 (Nat.le_refl _)); obtain ⟨e1, e2⟩ := S.out.cell X6.out k (by omega); clear x6)
          go_roundw
          case rel => exact ⟨k + 1, by omega, by go_num, S.out.put X6.out _ HE.out⟩
          case measure => simp [RowKit.intOf]; omega
  · have hnl : ¬ (k : Int) < (D.length : Int) := by omega
    have hkl : k = D.length := by omega
    subst hkl
    have HCL := hide (closed6_any ao cap D (agF (D.map PD.p) f g D.length) wr hl (HAT.out.below S.out.bel))
    obtain ⟨n, hn⟩ : ∃ n, Hid (n = mk (agF (D.map PD.p) f g D.length)) := ⟨_, rfl⟩
    obtain ⟨m, hm⟩ : ∃ m, Hid (m = mk (clF (D.map PD.p) (agF (D.map PD.p) f g D.length) D.length)) := ⟨_, rfl⟩
    have BN := hide S.out.nx
    rw [← hn.out] at HCL BN
    rw [← hm.out] at HCL
    have BR := hide S.out.res
    have X := hide S.out.bel
    have HI0 : Hid ((Tryz.prog.info? 80).map (·.size) = some n.size) := by unfold Hid; rw [hsz, hn.out, mk_size]
    have HI : Hid ((Tryz.prog.info? 80).map (·.size) = some m.size) := by unfold Hid; rw [hsz, hm.out, mk_size]
    have HZ2 : Hid (z.size = m.size) := by unfold Hid; rw [HZS.out, hm.out, mk_size]
    have HAL : Hid (m.all (·.oneCell') = true) := by unfold Hid; rw [hm.out]; exact mk_all _
    clear hzv hsz hs hs2 S S0
    go_wp2_with (first
     | (refine wpList_load_row rfl 80 (.tmp 7) rfl (w.heap.size + 3) rfl 80 n (0, 0) _ BN.out Tryz.underlying80 rfl HI0.out ?_)
     | (go_at_call 85; refine HCL.out.mono ?_; rintro e w6 ⟨rfl, x6⟩; have X6 := hide (bt X.out x6 (Nat.le_refl _)); have BR6 := hide ((x6.block _ (lt_of_block BR.out)).trans BR.out); clear x6)
     | (refine wpList_store_row rfl 80 (.tmp 6) (.tmp 43) rfl (w.heap.size + 2) m rfl rfl 80 z BR6.out HI.out HZ2.out HAL.out ?_))
    have HBN := hide (setRow_heap w6 (w.heap.size + 2) z m 80 (0, 0) BR6.out)
    have HXN := hide (below_setRow X6.out (by omega : w.heap.size ≤ w.heap.size + 2) m)
    refine bodyPost_ret (v := .agg m) (results_cell_row rfl _ _ (w.heap.size + 2) 80 m (0, 0) _ rfl HBN.out Tryz.underlying80 rfl HI.out) rfl ?_
    exact ⟨by rw [hm.out], HXN.out⟩
theorem beginning_any (ao : Option Addr) (cap : Nat) (D : List PD) (w : World) (hl : D.length ≤ 64) (hat : PcAt w ao D) :
 Calls Tryz.prog 45 #[.slice ao D.length cap] w fun e w' => e = .returned (.agg (mk (clF (D.map PD.p) (upd (fun _ => false) 0) D.length))) ∧ Below w.heap.size w w' := by
 obtain ⟨hzv, hsz⟩ := zero_of_info Tryz.info80
 have hs := mk_size fun _ => false
 have HAT := hide hat
 obtain ⟨z, hz⟩ : ∃ z, Hid (z = mk fun _ => false) := ⟨_, rfl⟩
 rw [← hz.out] at hzv hs
 have HZS := hide hs
 have x1 : Below w.heap.size w (w.alloc (.cells z 80)) := al (Below.refl _ _) _
 have b1 := heap_alloc_new w (.cells z 80)
 have e1 : (w.alloc (.cells z 80)).heap.size = w.heap.size + 1 := by simp
 have x2 : Below (w.alloc (.cells z 80)).heap.size (w.alloc (.cells z 80)) ((w.alloc (.cells z 80)).alloc (.cells z 80)) := al (Below.refl _ _) _
 have b2 := heap_alloc_new (w.alloc (.cells z 80)) (.cells z 80)
 have B1 := hide ((x2.block _ (by omega)).trans b1)
 rw [e1] at b2
 have B2 := hide b2
 have X2 := hide (bt x1 x2 (Nat.le_refl _))
 obtain ⟨w2, hw2⟩ : ∃ w2, w2 = (w.alloc (.cells z 80)).alloc (.cells z 80) := ⟨_, rfl⟩
 rw [← hw2] at B1 B2 X2
 clear x1 x2 b1 b2 e1 hat hs
 have c0 : w2.cell? ⟨w.heap.size + 1, 0, none⟩ = some (.bool false) := by rw [cell_of_row _ _ _ _ _ _ B2.out, hz.out]; exact mk_get _ _ (by omega)
 have f0 := frozen_of_row _ _ 0 _ _ B2.out
 go_enter Tryz.func45, Tryz.ntmps45
 go_upto_region 2 with fail
 rw [← hw2]
 clear hw2
 have hk6 : Kept (fun i => i = w.heap.size + 1) w2 (w2.setCell ⟨w.heap.size + 1, 0, none⟩ (.bool true)) := Kept.setCell (F := fun i => i = w.heap.size + 1) (p := ⟨w.heap.size + 1, 0, none⟩) (Kept.refl _ _) rfl _
 have B3 : Hid ((w2.setCell ⟨w.heap.size + 1, 0, none⟩ (.bool true)).heap[w.heap.size + 1]? = some (.cells (mk (upd (fun _ => false) 0)) 80 (0, 0))) := by
  unfold Hid
  rw [← mk_set, ← hz.out]
  exact block_setCell B2.out 0 _
 have BR := hide ((hk6.block _ (lt_of_block B1.out) (by omega)).trans B1.out)
 have X := hide (X2.out.trans (hk6.below X2.out.size (fun i hi => by omega)))
 clear hk6 B1 B2 X2
 go_upto_region 3 with fail
 generalize w2.setCell ⟨w.heap.size + 1, 0, none⟩ (.bool true) = w3 at *
 clear c0 f0
 have HCL := hide (closed6_any ao cap D (upd (fun _ => false) 0) w3 hl (HAT.out.below X.out))
 obtain ⟨n, hn⟩ : ∃ n, Hid (n = mk (upd (fun _ => false) 0)) := ⟨_, rfl⟩
 obtain ⟨m, hm⟩ : ∃ m, Hid (m = mk (clF (D.map PD.p) (upd (fun _ => false) 0) D.length)) := ⟨_, rfl⟩
 rw [← hn.out] at HCL B3
 rw [← hm.out] at HCL
 have HI0 : Hid ((Tryz.prog.info? 80).map (·.size) = some n.size) := by unfold Hid; rw [hsz, hn.out, mk_size]
 have HI : Hid ((Tryz.prog.info? 80).map (·.size) = some m.size) := by unfold Hid; rw [hsz, hm.out, mk_size]
 have HZ2 : Hid (z.size = m.size) := by unfold Hid; rw [HZS.out, hm.out, mk_size]
 have HAL : Hid (m.all (·.oneCell') = true) := by unfold Hid; rw [hm.out]; exact mk_all _
 clear hzv hsz
 go_wp2_with (first
  | (refine wpList_load_row rfl 80 (.tmp 3) rfl (w.heap.size + 1) rfl 80 n (0, 0) _ B3.out Tryz.underlying80 rfl HI0.out ?_)
  | (go_at_call 85; refine HCL.out.mono ?_; rintro e w6 ⟨rfl, x6⟩; have X6 := hide (bt X.out x6 (Nat.le_refl _)); have BR6 := hide ((x6.block _ (lt_of_block BR.out)).trans BR.out); clear x6)
  | (refine wpList_store_row rfl 80 (.tmp 2) (.tmp 8) rfl w.heap.size m rfl rfl 80 z BR6.out HI.out HZ2.out HAL.out ?_))
 have HBN := hide (setRow_heap w6 w.heap.size z m 80 (0, 0) BR6.out)
 have HXN := hide (below_setRow X6.out (Nat.le_refl w.heap.size) m)
 refine bodyPost_ret (v := .agg m) (results_cell_row rfl _ _ w.heap.size 80 m (0, 0) _ rfl HBN.out Tryz.underlying80 rfl HI.out) rfl ?_
 exact ⟨by rw [hm.out], HXN.out⟩
def mkb (N : Nat) (F : Nat → Bool) : Array Value := ((List.range N).map fun q => Value.bool (F q)).toArray
theorem mkb_size (N : Nat) (F : Nat → Bool) : (mkb N F).size = N := by unfold mkb; rw [List.size_toArray, List.length_map, List.length_range]
theorem mkb_get (N : Nat) (F : Nat → Bool) (q : Nat) (h : q < N) : (mkb N F)[q]? = some (.bool (F q)) := by
 unfold mkb
 rw [List.getElem?_toArray, List.getElem?_map, List.getElem?_range h]
 rfl
theorem mkb_ext (N : Nat) (F : Nat → Bool) (A : Array Value) (hs : A.size = N) (h : ∀ j, j < N → A[j]? = some (.bool (F j))) : A = mkb N F := by
 apply Array.ext
 · rw [mkb_size, hs]
 · intro j h1 h2
   have e3 := h j (by rw [← hs]; exact h1)
   have e4 := mkb_get N F j (by rw [← hs]; exact h1)
   rw [Array.getElem?_eq_getElem h1] at e3
   rw [Array.getElem?_eq_getElem h2] at e4
   injection e3 with e3
   injection e4 with e4
   rw [e3, e4]
def updb (F : Nat → Bool) (q : Nat) (b : Bool) : Nat → Bool := fun j => if j = q then b else F j
theorem mkb_set (N : Nat) (F : Nat → Bool) (q : Nat) (b : Bool) : (mkb N F).set! q (.bool b) = mkb N (updb F q b) := by
 refine mkb_ext N _ _ (by simp [mkb_size]) (fun j hj => ?_)
 rw [Array.set!_eq_setIfInBounds, Array.getElem?_setIfInBounds, mkb_size]
 unfold updb
 by_cases e : q = j
 · subst e; simp [hj]
 · rw [if_neg e, if_neg (fun h => e h.symm), mkb_get N F j hj]
theorem made_mkb (N : Nat) : madeCells (Value.agg (Array.replicate 64 (Value.bool false))).cells N = mkb N fun _ => false := by
 refine mkb_ext N _ _ (by simp [madeCells]) (fun j hj => ?_)
 have : j % 64 < 64 := Nat.mod_lt _ (by decide)
 simp [madeCells, Value.cells, this, hj]
def tq (L : List Pc) (b i q : Nat) : Bool := (decide (q / 64 < b) || (decide (q / 64 = b) && decide (q % 64 < i))) && (decide (q % 64 < L.length) && tkB (L.getD (q % 64) zPc) ((q / 64 : Nat) : Int))
theorem tq_zero (L : List Pc) : tq L 0 0 = fun _ => false := by funext q; simp [tq]
theorem tq_next (L : List Pc) (b i : Nat) (hi : i < L.length) (hl : L.length ≤ 64) : updb (tq L b i) (b * 64 + i) (tkB (L.getD i zPc) ((b : Nat) : Int)) = tq L b (i + 1) := by
 funext q
 unfold updb
 by_cases e : q = b * 64 + i
 · subst e
   have e1 : (b * 64 + i) / 64 = b := by omega
   have e2 : (b * 64 + i) % 64 = i := by omega
   rw [if_pos rfl]
   unfold tq
   rw [e1, e2]
   simp [hi]
 · rw [if_neg e]
   unfold tq
   congr 2
   by_cases h : q / 64 = b
   · have : q % 64 ≠ i := fun h2 => e (by omega)
     simp only [h, decide_true, Bool.true_and]
     congr 1
     simp
     omega
   · simp [h]
theorem tq_row (L : List Pc) (b : Nat) : tq L b L.length = tq L (b + 1) 0 := by
 funext q
 unfold tq
 by_cases h : q % 64 < L.length
 · simp only [h, decide_true, Bool.and_true, Bool.true_and, Nat.not_lt_zero, decide_false, Bool.and_false, Bool.or_false]
   congr 1
   by_cases h1 : q / 64 < b
   · simp [h1, Nat.lt_succ_of_lt h1]
   · by_cases h2 : q / 64 = b
     · simp [h2]
     · have : ¬ q / 64 < b + 1 := by omega
       simp [h1, h2, this]
 · simp [h]
theorem Tryz.info73b : (Tryz.prog.info? 73).map (fun i => (i.zero, i.size, i.bytes)) = some (some (.agg (Array.replicate 64 (Value.bool false))), 64, 64) := by kernel_rfl
theorem make67 (V : World) : (Instr.makeSlice 67 (.int .i64 256) (.int .i64 256)).run Tryz.prog V = .ok (.slice (some ⟨V.heap.size, 0, none⟩) 256 256) (V.alloc (.cells (mkb 16384 fun _ => false) 73)) := by
 obtain ⟨i, h0, h1, h2, h3⟩ := info_parts Tryz.info73b
 have := run_make V 67 73 i _ (P := Tryz.prog) Tryz.underlying67 h0 h1 .i64 .i64 256 256 (by decide) (by decide) (by rw [h3]; decide) (by decide)
 rw [this, h2]
 rw [show Int.toNat 256 * 64 = 16384 from rfl, made_mkb]
 rfl
theorem Rt.one {L : List Pc} (h : Rt L) {p : Pc} (hp : p ∈ L) : Rt [p] := ⟨by simp, fun q hq => by rw [List.mem_singleton.1 hq]; exact h.2.1 p hp, fun i hi => by simp at hi⟩
theorem pcAt_one (W : World) (p : PD) (h : SpAt (W.alloc (.cells #[.int .i64 p.p.kind, .int .i64 p.p.b, .bool p.p.no, .slice p.so p.p.set.length p.sc] 96)) p.so p.p.set) : PcAt (W.alloc (.cells #[.int .i64 p.p.kind, .int .i64 p.p.b, .bool p.p.no, .slice p.so p.p.set.length p.sc] 96)) (some ⟨W.heap.size, 0, none⟩) [p] := by
 have B := heap_alloc_new W (.cells #[.int .i64 p.p.kind, .int .i64 p.p.b, .bool p.p.no, .slice p.so p.p.set.length p.sc] 96)
 refine .inr ⟨_, 0, rfl, lt_of_block B, fun i hi => ?_⟩
 obtain rfl : i = 0 := by simp at hi; omega
 exact ⟨by rw [cell_of_row _ _ _ _ _ _ B]; rfl, by rw [cell_of_row _ _ _ _ _ _ B]; rfl, by rw [cell_of_row _ _ _ _ _ _ B]; rfl, by rw [cell_of_row _ _ _ _ _ _ B]; rfl, h⟩
theorem takings_any (ao : Option Addr) (cap : Nat) (D : List PD) (w : World) (hR : Rt (D.map PD.p)) (hLen : ∀ d ∈ D, d.p.set.length ≤ 140737488351232) (hat : PcAt w ao D) :
 Calls Tryz.prog 41 #[.slice ao D.length cap] w fun e w' => e = .returned (.slice (some ⟨w.heap.size, 0, none⟩) 256 256) ∧ w'.heap[w.heap.size]? = some (.cells (mkb 16384 (tq (D.map PD.p) 256 0)) 73 (0, 0)) ∧ Below w.heap.size w w' := by
 have hl : D.length ≤ 64 := by have := hR.1; rwa [List.length_map] at this
 have HAT := hide hat
 have HR := hide hR
 have HLEN := hide hLen
 have hmk := make67 w
 have B0 : Hid ((w.alloc (.cells (mkb 16384 fun _ => false) 73)).heap[w.heap.size]? = some (.cells (mkb 16384 (tq (D.map PD.p) 0 0)) 73 (0, 0))) := by unfold Hid; rw [tq_zero]; exact heap_alloc_new _ _
 have X0 : Hid (Below w.heap.size w (w.alloc (.cells (mkb 16384 fun _ => false) 73))) := al (Below.refl _ _) _
 clear hat hR hLen
 generalize w.alloc (.cells (mkb 16384 fun _ => false) 73) = w1 at *
 go_enter Tryz.func41, Tryz.ntmps41
 go_wp2
 go_loopg [10] 257 (fun g x wr => ∃ b : Nat, x = .int .i64 (b : Nat) ∧ Hid (wr.heap[w.heap.size]? = some (.cells (mkb 16384 (tq (D.map PD.p) b 0)) 73 (0, 0))) ∧ Hid (Below w.heap.size w wr) ∧ b ≤ 256 ∧ 256 - b < g)
 case atStart => exact ⟨0, rfl, B0, X0, by omega, by omega⟩
 case round =>
  obtain ⟨b, rfl, BL, X, hb, hg⟩ := hrel
  have HG := hide hg
  clear hg
  by_cases hlt : b < 256
  · have hlt' : (b : Int) < 256 := by omega
    have wb : IntKind.u8.wrap ((b : Nat) : Int) = ((b : Nat) : Int) := by simp [IntKind.wrap, IntKind.bits, IntKind.signed]; omega
    have B1 := heap_alloc_new wr (.cells #[.int .u8 (b : Int)] 5)
    have X1 : Below wr.heap.size wr (wr.alloc (.cells #[.int .u8 (b : Int)] 5)) := al (Below.refl _ _) _
    have hcv : (convert 89 9 (.slice (some ⟨wr.heap.size, 0, none⟩) 1 1)).run Tryz.prog (wr.alloc (.cells #[.int .u8 (b : Int)] 5)) = .ok (.string ⟨#[UInt8.ofNat b]⟩) (wr.alloc (.cells #[.int .u8 (b : Int)] 5)) := by
     have := run_convert_bytes_arg (P := Tryz.prog) (wr.alloc (.cells #[.int .u8 (b : Int)] 5)) 89 5 Tryz.underlying89 Tryz.underlying5 wr.heap.size 0 1 1 [(b : Int)] (by simp) (fun i hi => by
      obtain rfl : i = 0 := by omega
      rw [cell_of_row _ _ _ _ _ _ B1]; rfl) 9 Tryz.underlying9
     rw [this]
     rfl
    have BL1 : Hid ((wr.alloc (.cells #[.int .u8 (b : Int)] 5)).heap[w.heap.size]? = some (.cells (mkb 16384 (tq (D.map PD.p) b 0)) 73 (0, 0))) := (X1.block _ (lt_of_block BL.out)).trans BL.out
    have XX1 := hide (bt X.out X1 (Nat.le_refl _))
    clear B1 X1 B0 X0 hmk
    go_upto_region 6 with fail
    generalize wr.alloc (.cells #[.int .u8 (b : Int)] 5) = w2 at *
    go_wp2
    go_loopg [19] (D.length + 1) (fun g x wr => ∃ k : Nat, x = .int .i64 (k : Nat) ∧ Hid (wr.heap[w.heap.size]? = some (.cells (mkb 16384 (tq (D.map PD.p) b k)) 73 (0, 0))) ∧ Hid (Below w.heap.size w wr) ∧ k ≤ D.length ∧ D.length - k < g)
    case atStart => exact ⟨0, rfl, BL1, XX1, by omega, by omega⟩
    case round =>
     obtain ⟨k, rfl, BL, X, hk, hg2⟩ := hrel
     have HG2 := hide hg2
     clear hg2 BL1 XX1 hcv
     by_cases hkl : k < D.length
     · have hkl' : (k : Int) < (D.length : Int) := by omega
       have h64 : (k : Int) < 64 := by omega
       rcases HAT.out with h | ⟨pb, off, rfl, hpb, hc⟩
       · rw [h] at hkl; simp at hkl
       obtain ⟨p0, p1, p2, p3, p4⟩ := hc k hkl
       have r0 := (X.out.cell (p := ⟨pb, off + k * 4, none⟩) hpb).trans p0
       have r1 := (X.out.cell (p := ⟨pb, off + k * 4 + 1, none⟩) hpb).trans p1
       have r2 := (X.out.cell (p := ⟨pb, off + k * 4 + 2, none⟩) hpb).trans p2
       have r3 := (X.out.cell (p := ⟨pb, off + k * 4 + 3, none⟩) hpb).trans p3
       have P4 := hide (p4.below X.out)
       have HR1 := hide (HR.out.one (List.mem_map_of_mem (f := PD.p) (List.getElem_mem hkl)))
       have HPL := hide (HLEN.out _ (List.getElem_mem hkl))
       have HTN : Hid (updb (tq (D.map PD.p) b k) (b * 64 + k) (tkB D[k].p ((b : Nat) : Int)) = tq (D.map PD.p) b (k + 1)) := by
        have := tq_next (D.map PD.p) b k (by rw [List.length_map]; exact hkl) (by rw [List.length_map]; exact hl)
        rw [getD_mapz D k hkl] at this
        exact this
       generalize D[k] = d at *
       clear hc p0 p1 p2 p3 p4
       have HM : Hid (∀ V : World, Below (wr.alloc (.cells #[.int .i64 d.p.kind, .int .i64 d.p.b, .bool d.p.no, .slice d.so d.p.set.length d.sc] 96)).heap.size (wr.alloc (.cells #[.int .i64 d.p.kind, .int .i64 d.p.b, .bool d.p.no, .slice d.so d.p.set.length d.sc] 96)) V → Calls Tryz.prog 31 #[.slice (some ⟨wr.heap.size, 0, none⟩) 1 1, .string ⟨#[UInt8.ofNat b]⟩] V fun e w' => e = .returned (.tuple #[.bool (tkB d.p ((b : Nat) : Int)), .int .i64 0]) ∧ Below wr.heap.size wr w') := fun V x => by
        have x2 : Below wr.heap.size wr (wr.alloc (.cells #[.int .i64 d.p.kind, .int .i64 d.p.b, .bool d.p.no, .slice d.so d.p.set.length d.sc] 96)) := al (Below.refl _ _) _
        have x3 := bt x2 x (Nat.le_refl _)
        have := match_any (some ⟨wr.heap.size, 0, none⟩) 1 [d] [UInt8.ofNat b] V (by simp) (fun y hy => by rw [List.mem_singleton.1 hy]; exact HPL.out) ((pcAt_one wr d (P4.out.below x2)).below x)
        refine this.mono ?_
        rintro e w' ⟨h, x4⟩
        refine ⟨?_, bt x3 x4 (Nat.le_refl _)⟩
        rcases h with ⟨_, rfl⟩ | ⟨h, _⟩
        · have e1 : mtF ([d].map PD.p) [UInt8.ofNat b] ([d].map PD.p).length = tkB d.p (((UInt8.ofNat b).toNat : Nat) : Int) := one_takes d.p (UInt8.ofNat b)
          have e2 : (UInt8.ofNat b).toNat = b := by simp; omega
          rw [e1, e2]
        · exact absurd HR1.out h
       generalize tkB d.p ((b : Nat) : Int) = v at *
       have hq : b * 64 + k < 16384 := by omega
       have lw := lt_of_block BL.out
       have HCW : Hid (∀ V, Below wr.heap.size wr V → V.cell? ⟨w.heap.size, b * 64 + k, none⟩ = some (.bool (tq (D.map PD.p) b k (b * 64 + k))) ∧ V.frozen? ⟨w.heap.size, b * 64 + k, none⟩ = false) := fun V x => by
        have b1 := (x.block _ lw).trans BL.out
        exact ⟨by rw [cell_of_row _ _ _ _ _ _ b1]; exact mkb_get _ _ _ hq, frozen_of_row _ _ _ _ _ b1⟩
       go_wp2
       go_region_with (go_at_call 31; refine (HM.out _ ?_).mono ?_; exact (Below.refl _ _).drew; rintro e w4 ⟨rfl, x4⟩; obtain ⟨y1, y2⟩ := HCW.out w4 x4; have X4 := hide x4; clear x4)
       have b4 := (X4.out.block _ lw).trans BL.out
       have hk6 : Kept (fun i => i = w.heap.size) w4 (w4.setCell ⟨w.heap.size, b * 64 + k, none⟩ (.bool v)) := Kept.setCell (F := fun i => i = w.heap.size) (p := ⟨w.heap.size, b * 64 + k, none⟩) (Kept.refl _ _) rfl _
       have BN : Hid ((w4.setCell ⟨w.heap.size, b * 64 + k, none⟩ (.bool v)).heap[w.heap.size]? = some (.cells (mkb 16384 (tq (D.map PD.p) b (k + 1))) 73 (0, 0))) := by
        unfold Hid
        rw [← HTN.out, ← mkb_set]
        exact block_setCell b4 _ _
       have XN := hide ((bt X.out X4.out (Nat.le_refl _)).trans (hk6.below (Nat.le_trans X.out.size X4.out.size) (fun i hi => by omega)))
       clear b4 hk6
       go_wp2
       go_roundg (D.length - (k + 1) + 1)
       case measure => have := HG2.out; omega
       case rel => exact ⟨k + 1, by first | rfl | go_num | (congr 1; omega), BN, XN, by omega, by omega⟩
     · have hkl' : ¬ (k : Int) < (D.length : Int) := by omega
       obtain rfl : k = D.length := by omega
       have BN : Hid (wr.heap[w.heap.size]? = some (.cells (mkb 16384 (tq (D.map PD.p) (b + 1) 0)) 73 (0, 0))) := by
        unfold Hid
        rw [← tq_row, List.length_map]
        exact BL.out
       go_wp2
       go_roundg (256 - (b + 1) + 1)
       case measure => have := HG.out; omega
       case rel => exact ⟨b + 1, by first | rfl | go_num | (congr 1; omega), BN, X, by omega, by omega⟩
  · have hlt' : ¬ (b : Int) < 256 := by omega
    obtain rfl : b = 256 := by omega
    go_wp2
    go_ret
    exact ⟨rfl, BL.out, X.out⟩
end Go.Proofs.YtdgoilkgplnhfaaGreat
