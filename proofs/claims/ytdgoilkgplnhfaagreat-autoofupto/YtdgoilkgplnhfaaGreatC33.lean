/-
  Parse by its contract. Condition: a text has at most 2^32 bytes.
-/
import Derived.Test.YtdgoilkgplnhfaaGreatC32
set_option maxRecDepth 100000
set_option maxHeartbeats 16000000
namespace Go.Proofs.YtdgoilkgplnhfaaGreat
open Go.RowKit Go.Lib
structure PD where
 p : Pc
 so : Option Addr
 sc : Nat
def PD.v (d : PD) : Value := .slice d.so d.p.set.length d.sc
def PD.cells (d : PD) : List Value := [.int .i64 d.p.kind, .int .i64 d.p.b, .bool d.p.no, d.v]
def pdCells (D : List PD) : List Value := D.flatMap PD.cells
theorem pdCells_snoc (D : List PD) (d : PD) : pdCells (D ++ [d]) = pdCells D ++ [.int .i64 d.p.kind, .int .i64 d.p.b, .bool d.p.no, .slice d.so d.p.set.length d.sc] := by simp [pdCells, PD.cells, PD.v]
structure OwnP (w : World) (base : Nat) (v : Value) (D : List PD) : Prop where
 row : w.ownsRow base 96 4 v D.length (pdCells D)
 sets : ∀ d ∈ D, OwnS w base d.v d.p.set
 apart : D.Pairwise (fun d e => ∀ k, d.v.ownBlock = some k → ¬ e.v.ownBlock = some k)
theorem OwnP.nil (w : World) (base : Nat) : OwnP w base (.slice none 0 0) [] := ⟨World.ownsRow_nil w base 96 4, fun d hd => (by cases hd), List.Pairwise.nil⟩
theorem OwnP.kept {F : Nat → Prop} {w w' : World} {base : Nat} {v : Value} {D : List PD} (h : OwnP w base v D) (hk : Kept F w w') (hF : ∀ k, F k → k < base) : OwnP w' base v D :=
 ⟨own_kept h.row hk (fun k hk hf => by have := (World.ownsRow.lt h.row k hk).1; have := hF k hf; omega), fun d hd => (h.sets d hd).kept hk (fun k hk hf => by have := ((h.sets d hd).lt k hk).1; have := hF k hf; omega), h.apart⟩
theorem OwnP.below {w w' : World} {base : Nat} {v : Value} {D : List PD} (h : OwnP w base v D) (hb : Below w.heap.size w w') : OwnP w' base v D :=
 ⟨own_below h.row hb, fun d hd => (h.sets d hd).below hb, h.apart⟩
theorem Tryz.info96 : (Tryz.prog.info? 96).map (fun i => (i.zero, i.size, i.bytes)) = some (some (.agg #[.int .i64 0, .int .i64 0, .bool false, .slice none 0 0]), 4, 48) := by kernel_rfl
theorem info_parts {t : TypeId} {z : Value} {s b : Nat} (h : (Tryz.prog.info? t).map (fun i => (i.zero, i.size, i.bytes)) = some (some z, s, b)) : ∃ i, Tryz.prog.info? t = some i ∧ i.zero = some z ∧ i.size = s ∧ i.bytes = b := by
 cases hi : Tryz.prog.info? t with
 | none => rw [hi] at h; cases h
 | some i => rw [hi] at h; simp at h; exact ⟨i, rfl, h.1, h.2.1, h.2.2⟩
def PaIs (s : By) (base : Nat) (x : Except By (List Pc)) (e : Ending) (w' : World) : Prop := match x with
 | .ok L => ∃ v D, e = .returned (.tuple #[v, .int .i64 0, .int .i64 0]) ∧ OwnP w' base v D ∧ D.map PD.p = L
 | .error t => e = .returned (.tuple #[.slice none 0 0, .int .i64 50, .int .i64 ((s.length - t.length : Nat) : Int)]) ∧ t.length ≤ s.length
structure PaS (s : By) (w0 : World) (v : Value) (D : List PD) (r : By) (n : Nat) (wr : World) : Prop where
 own : OwnP wr (w0.heap.size + 1) v D
 rd : RdS wr w0.heap.size s r
 fuel : psL n r (D.map PD.p) = parL s
 lt : r.length < n
 len : D.length + r.length ≤ s.length
 bel : Below w0.heap.size w0 wr
 siz : w0.heap.size + 1 ≤ wr.heap.size
section
variable {s : By} {w0 : World} {v : Value} {D : List PD} {r : By} {n : Nat} {wr : World}
theorem PaS.succ (h : PaS s w0 v D r n wr) : ∃ m, n = m + 1 := ⟨n - 1, by have := h.lt; omega⟩
theorem PaS.end' (h : PaS s w0 v D r n wr) (hr : r = []) : parL s = .ok (D.map PD.p) := by
 obtain ⟨m, rfl⟩ := h.succ
 rw [← h.fuel]
 unfold psL
 rw [if_pos hr]
theorem PaS.full (h : PaS s w0 v D r n wr) (hr : ¬ r = []) (hD : D.length = 64) : parL s = .error r := by
 obtain ⟨m, rfl⟩ := h.succ
 rw [← h.fuel]
 unfold psL
 rw [if_neg hr, if_pos (by rw [List.length_map]; exact hD)]
theorem PaS.err (h : PaS s w0 v D r n wr) (hr : ¬ r = []) (hD : ¬ D.length = 64) {t : By} (hp : pcL r = .error t) : parL s = .error t := by
 obtain ⟨m, rfl⟩ := h.succ
 rw [← h.fuel]
 unfold psL
 rw [if_neg hr, if_neg (by rw [List.length_map]; exact hD), hp]
theorem OwnP.push {w4 wq : World} {base : Nat} {v v' : Value} {D : List PD} (h : OwnP w4 base v D) (d : PD) (ho : OwnS w4 base d.v d.p.set) (ha : ∀ e ∈ D, ∀ k, e.v.ownBlock = some k → ¬ d.v.ownBlock = some k)
 (h1 : wq.ownsRow base 96 4 v' (D.length + 1) (pdCells D ++ [.int .i64 d.p.kind, .int .i64 d.p.b, .bool d.p.no, .slice d.so d.p.set.length d.sc])) {F : Nat → Prop} (hk : Kept F w4 wq) (hF : ∀ k, F k → v.ownBlock = some k) : OwnP wq base v' (D ++ [d]) := by
 have hne : ∀ (e : PD), OwnS w4 base e.v e.p.set → ∀ k, e.v.ownBlock = some k → ¬ F k := fun e he k hk hf => by
  obtain ⟨cs, h5⟩ := own_ty he k hk
  obtain ⟨cs', h6⟩ := own_ty h.row k (hF k hf)
  rw [h5] at h6
  simp at h6
 refine ⟨?_, fun e he => ?_, ?_⟩
 · rw [pdCells_snoc, List.length_append]
   exact h1
 · rcases List.mem_append.1 he with he | he
   · exact (h.sets e he).kept hk (hne e (h.sets e he))
   · rw [List.mem_singleton.1 he]
     exact ho.kept hk (hne d ho)
 · rw [List.pairwise_append]
   refine ⟨h.apart, List.pairwise_singleton _ _, fun a ha' b hb => ?_⟩
   rw [List.mem_singleton.1 hb]
   exact ha a ha'
end
theorem PaS.next {s : By} {w0 : World} {v : Value} {D : List PD} {r : By} {n : Nat} {wr : World} (h : PaS s w0 v D r n wr) (hr : ¬ r = []) (hD : ¬ D.length = 64) {p : Pc} {t : By} (hp : pcL r = .ok (p, t)) {w4 wq : World} {v' : Value} (so : Option Addr) (sc : Nat)
 (ho : OwnS w4 wr.heap.size (.slice so p.set.length sc) p.set) (r4 : RdS w4 w0.heap.size s t) (k4 : Kept (fun k => k = w0.heap.size) wr w4)
 (h1 : wq.ownsRow (w0.heap.size + 1) 96 4 v' (D.length + 1) (pdCells D ++ [.int .i64 p.kind, .int .i64 p.b, .bool p.no, .slice so p.set.length sc])) (h2 : AppAt ((w4.alloc (.cells #[.int .i64 p.kind, .int .i64 p.b, .bool p.no, .slice so p.set.length sc] 96)).alloc (.cells #[.int .i64 p.kind, .int .i64 p.b, .bool p.no, .slice so p.set.length sc] 96)) wq v v') : PaS s w0 v' (D ++ [⟨p, so, sc⟩]) t (n - 1) wq := by
 obtain ⟨m, rfl⟩ := h.succ
 obtain ⟨a1, a2, a3⟩ := pcL_ok hp
 have X5 : Below w4.heap.size w4 ((w4.alloc (.cells #[.int .i64 p.kind, .int .i64 p.b, .bool p.no, .slice so p.set.length sc] 96)).alloc (.cells #[.int .i64 p.kind, .int .i64 p.b, .bool p.no, .slice so p.set.length sc] 96)) := al (al (Below.refl _ _) _) _
 obtain ⟨F, hk, hF⟩ := app_kept h2
 have o5 := (h.own.kept k4 (fun k hk => by omega)).below X5
 have hF2 : ∀ k, F k → w0.heap.size + 1 ≤ k := fun k hf => (World.ownsRow.lt o5.row k (hF k hf)).1
 refine ⟨o5.push ⟨p, so, sc⟩ ((OwnS.mono ho h.siz).below X5) (fun e he k hk1 hk2 => ?_) h1 hk hF, (r4.below X5).kept hk (fun hf => by have := hF2 _ hf; omega), ?_, ?_, ?_, ?_, ?_⟩
 · have := (ho.lt k hk2).1
   have := ((h.own.sets e he).lt k hk1).2
   omega
 · rw [← h.fuel]
   conv => rhs; unfold psL
   rw [if_neg hr, if_neg (by rw [List.length_map]; exact hD), hp, List.map_append]
   rfl
 · have := h.lt
   simp only [Nat.add_sub_cancel]
   omega
 · have := h.len
   rw [List.length_append, List.length_singleton]
   omega
 · exact ((h.bel.trans (k4.below h.bel.size (fun k hk => by omega))).trans (X5.mono (Nat.le_trans h.bel.size k4.size))).trans (hk.below (Nat.le_trans h.bel.size (Nat.le_trans k4.size X5.size)) (fun k hf => by have := hF2 k hf; omega))
 · exact Nat.le_trans h.siz (Nat.le_trans k4.size (Nat.le_trans X5.size hk.size))
theorem parse_any (s : By) (w : World) (hl : s.length ≤ 4294967296) :
 Calls Tryz.prog 22 #[.string ⟨s.toArray⟩] w fun e w' => PaIs s w.heap.size (parL s) e w' ∧ Below w.heap.size w w' := by
 obtain ⟨i44, hj, hy0, hy1, hy2⟩ := info_parts Tryz.info96
 have S0 : Hid (PaS s w (.slice none 0 0) [] s (s.length + 1) (w.alloc (.cells #[.string ⟨s.toArray⟩, .int .i64 0] 93))) := ⟨OwnP.nil _ _, ⟨[], rfl, heap_alloc_new _ _⟩, rfl, by omega, by simp, al (Below.refl _ _) _, by simp⟩
 go_enter Tryz.func22, Tryz.ntmps22
 go_wp2
 go_loopw [6] (fun it wr => ∃ D r n, Hid (PaS s w it D r n wr)) (fun it _ => s.length - slen it)
 case atStart => exact ⟨_, _, _, S0⟩
 case round =>
  obtain ⟨D, r, n, S⟩ := hrel
  rename World => wr
  obtain ⟨ao, cap, rfl, _⟩ := own_shape S.out.own.row
  obtain ⟨q, hq, hat⟩ := S.out.rd
  have c1 := hat.c1
  have hql : s.length = q.length + r.length := by rw [hq, List.length_append]
  have HAL0 : Hid (D.length ≤ s.length) := by have := S.out.len; unfold Hid; omega
  by_cases hr : r = []
  · have HEN := hide (S.out.end' hr)
    have hlt : ¬ (q.length : Int) < (s.length : Int) := by rw [hr] at hql; simp at hql; omega
    clear hq hat hql hr
    go_wp2
    go_ret3
    refine ⟨?_, S.out.bel⟩
    rw [HEN.out]
    exact ⟨_, D, rfl, ⟨own_mono S.out.own.row (by omega), fun d hd => (S.out.own.sets d hd).mono (by omega), S.out.own.apart⟩, rfl⟩
  · have hrl : 0 < r.length := by cases r with | nil => exact absurd rfl hr | cons c r => simp
    have hlt : (q.length : Int) < (s.length : Int) := by omega
    have HQ : Hid (q.length = s.length - r.length) := by unfold Hid; omega
    have HRS : Hid (r.length ≤ s.length) := by unfold Hid; omega
    by_cases hD : D.length = 64
    · have HE := hide (S.out.full hr hD)
      have hD' : ((D.length : Nat) : Int) = 64 := by omega
      clear hq hat hql hr hrl hD
      go_wp2
      go_quiet (fail)
      go_wp2
      go_ret3
      refine ⟨?_, S.out.bel.trans (below_drewN _ _ _)⟩
      rw [HE.out]
      exact ⟨by rw [HQ.out]; rfl, HRS.out⟩
    · have hD' : ¬ ((D.length : Nat) : Int) = 64 := by omega
      have HP := hide (piece_s w.heap.size s r wr hl S.out.rd)
      clear hq hat hql hrl
      go_wp2_with (fail)
      refine HP.out.mono ?_
      rintro e w4 ⟨h4, k4⟩
      cases hp : pcL r with
      | error t =>
        obtain ⟨⟨k, rfl⟩, r4⟩ := h4.err hp
        have HE := hide (S.out.err hr hD hp)
        have X5 : Below w4.heap.size w4 (w4.alloc (.cells #[.int .i64 k, .int .i64 0, .bool false, .slice none 0 0] 96)) := al (Below.refl _ _) _
        obtain ⟨q', hq', hat'⟩ := r4.below X5
        have d1 := hat'.c1
        have hql : s.length = q'.length + t.length := by rw [hq', List.length_append]
        have HQ' : Hid (q'.length = s.length - t.length) := by unfold Hid; omega
        have HTS : Hid (t.length ≤ s.length) := by unfold Hid; omega
        have B5 := hide ((S.out.bel.trans (k4.below S.out.bel.size (fun k hk => by omega))).trans (X5.mono (Nat.le_trans S.out.bel.size k4.size)))
        clear h4 k4 r4 X5 hq' hat' hql hp hr hD c1 HP
        go_wp2
        go_quiet (fail)
        go_wp2
        go_ret3
        refine ⟨?_, B5.out.trans (below_drewN _ _ _)⟩
        rw [HE.out]
        exact ⟨by rw [HQ'.out]; rfl, HTS.out⟩
      | ok x =>
        obtain ⟨p, t⟩ := x
        obtain ⟨⟨so, sc, rfl, o4⟩, r4⟩ := h4.ok hp
        have HNX := hide (fun wq v' (h1 : wq.ownsRow (w.heap.size + 1) 96 4 v' (D.length + 1) (pdCells D ++ [.int .i64 p.kind, .int .i64 p.b, .bool p.no, .slice so p.set.length sc])) (h2 : AppAt ((w4.alloc (.cells #[.int .i64 p.kind, .int .i64 p.b, .bool p.no, .slice so p.set.length sc] 96)).alloc (.cells #[.int .i64 p.kind, .int .i64 p.b, .bool p.no, .slice so p.set.length sc] 96)) wq (.slice ao D.length cap) v') => S.out.next hr hD hp so sc o4 r4 k4 h1 h2)
        have X5 : Below w4.heap.size w4 ((w4.alloc (.cells #[.int .i64 p.kind, .int .i64 p.b, .bool p.no, .slice so p.set.length sc] 96)).alloc (.cells #[.int .i64 p.kind, .int .i64 p.b, .bool p.no, .slice so p.set.length sc] 96)) := al (al (Below.refl _ _) _) _
        have O5 := hide ((S.out.own.kept k4 (fun k hk => by omega)).below X5).row
        have HN : Hid (∀ j u, ([.int .i64 p.kind, .int .i64 p.b, .bool p.no, .slice so p.set.length sc] : List Value)[j]? = some u → ((w4.alloc (.cells #[.int .i64 p.kind, .int .i64 p.b, .bool p.no, .slice so p.set.length sc] 96)).alloc (.cells #[.int .i64 p.kind, .int .i64 p.b, .bool p.no, .slice so p.set.length sc] 96)).cell? ((⟨w4.heap.size + 1, 0, none⟩ : Addr).add j) = some u) := by
         intro j u hu
         match j, hu with
         | 0, hu => simp at hu; subst hu; simp [Addr.add]
         | 1, hu => simp at hu; subst hu; simp [Addr.add]
         | 2, hu => simp at hu; subst hu; simp [Addr.add]
         | 3, hu => simp at hu; subst hu; simp [Addr.add]
        have HB5 : Hid (w.heap.size + 1 ≤ ((w4.alloc (.cells #[.int .i64 p.kind, .int .i64 p.b, .bool p.no, .slice so p.set.length sc] 96)).alloc (.cells #[.int .i64 p.kind, .int .i64 p.b, .bool p.no, .slice so p.set.length sc] 96)).heap.size) := Nat.le_trans S.out.siz (Nat.le_trans k4.size X5.size)
        clear h4 k4 r4 X5 hp hr o4 HP c1
        go_wp2_with (at_builtin; refine wpList_append_view rfl (.tmp 29) (.tmp 31) 39 rfl (w.heap.size + 1) 96 i44 (.agg #[.int .i64 0, .int .i64 0, .bool false, .slice none 0 0]) 4 48 Tryz.underlying39 hj hy0 hy1 hy2 rfl (by decide) _ D.length (pdCells D) rfl O5.out ⟨w4.heap.size + 1, 0, none⟩ 1 1 [.int .i64 p.kind, .int .i64 p.b, .bool p.no, .slice so p.set.length sc] rfl rfl HN.out (by simp [Value.oneCell']) (by decide) (by have := HAL0.out; unfold maxLen; omega) (by have := HAL0.out; omega) HB5.out ?_; intro v6 w6 h1 h2; have S6 := hide (HNX.out _ _ h1 h2); obtain ⟨a6, c6, rfl, _⟩ := own_shape h1; clear h1 h2)
        go_roundw
        case rel => exact ⟨_, _, _, S6⟩
        case measure =>
         have hS := S6.out.len
         rw [List.length_append, List.length_singleton] at hS
         simp only [slen]
         omega
def PcAt (w : World) (ao : Option Addr) (D : List PD) : Prop := D = [] ∨ ∃ b off, ao = some ⟨b, off, none⟩ ∧ b < w.heap.size ∧ ∀ i (h : i < D.length), w.cell? ⟨b, off + i * 4, none⟩ = some (.int .i64 D[i].p.kind) ∧ w.cell? ⟨b, off + i * 4 + 1, none⟩ = some (.int .i64 D[i].p.b) ∧ w.cell? ⟨b, off + i * 4 + 2, none⟩ = some (.bool D[i].p.no) ∧ w.cell? ⟨b, off + i * 4 + 3, none⟩ = some (.slice D[i].so D[i].p.set.length D[i].sc) ∧ SpAt w D[i].so D[i].p.set
theorem PcAt.below {w w' : World} {ao : Option Addr} {D : List PD} (h : PcAt w ao D) (hb : Below w.heap.size w w') : PcAt w' ao D := by
 rcases h with rfl | ⟨b, off, e, hlt, h⟩
 · exact .inl rfl
 · refine .inr ⟨b, off, e, Nat.lt_of_lt_of_le hlt hb.size, fun i hi => ?_⟩
   obtain ⟨a0, a1, a2, a3, a4⟩ := h i hi
   exact ⟨(hb.cell (p := ⟨b, _, none⟩) hlt).trans a0, (hb.cell (p := ⟨b, _, none⟩) hlt).trans a1, (hb.cell (p := ⟨b, _, none⟩) hlt).trans a2, (hb.cell (p := ⟨b, _, none⟩) hlt).trans a3, a4.below hb⟩
theorem pdCells_get (D : List PD) (i : Nat) (h : i < D.length) : (pdCells D)[i * 4]? = some (.int .i64 D[i].p.kind) ∧ (pdCells D)[i * 4 + 1]? = some (.int .i64 D[i].p.b) ∧ (pdCells D)[i * 4 + 2]? = some (.bool D[i].p.no) ∧ (pdCells D)[i * 4 + 3]? = some D[i].v := by
 induction D generalizing i with
 | nil => simp at h
 | cons d D ih =>
   have e : pdCells (d :: D) = .int .i64 d.p.kind :: .int .i64 d.p.b :: .bool d.p.no :: d.v :: pdCells D := by simp [pdCells, PD.cells]
   rw [e]
   cases i with
   | zero => simp
   | succ i =>
     have := ih i (by simpa using h)
     rw [show (i + 1) * 4 = i * 4 + 4 by omega]
     simpa using this
theorem OwnP.at {w : World} {base : Nat} {v : Value} {D : List PD} (h : OwnP w base v D) : ∃ ao cap, v = .slice ao D.length cap ∧ D.length ≤ cap ∧ PcAt w ao D := by
 rcases h.row.2 with ⟨rfl, hn⟩ | ⟨g, cap, cur, rfl, hb, hg, hnc, _⟩
 · exact ⟨none, 0, by rw [hn], by omega, .inl (List.eq_nil_of_length_eq_zero hn)⟩
 · refine ⟨_, cap, rfl, hnc, .inr ⟨g, 0, rfl, lt_of_block hg, fun i hi => ?_⟩⟩
   obtain ⟨g0, g1, g2, g3⟩ := pdCells_get D i hi
   rw [Nat.zero_add, World.ownsRow.cellAt h.row (i * 4) (by omega), World.ownsRow.cellAt h.row (i * 4 + 1) (by omega), World.ownsRow.cellAt h.row (i * 4 + 2) (by omega), World.ownsRow.cellAt h.row (i * 4 + 3) (by omega)]
   obtain ⟨ao', c', e', h', _⟩ := (h.sets _ (List.getElem_mem hi)).shape
   have e2 : D[i].so = ao' := by unfold PD.v at e'; injection e'
   exact ⟨g0, g1, g2, g3, by rw [e2]; exact h'⟩
def mk (f : Nat → Bool) : Array Value := ((List.range 65).map fun i => Value.bool (f i)).toArray
theorem mk_size (f : Nat → Bool) : (mk f).size = 65 := by simp [mk]
theorem mk_get (f : Nat → Bool) (i : Nat) (h : i < 65) : (mk f)[i]? = some (.bool (f i)) := by simp [mk, h]
def upd (f : Nat → Bool) (i : Nat) : Nat → Bool := fun j => if j = i then true else f j
theorem mk_set (f : Nat → Bool) (i : Nat) : (mk f).set! i (.bool true) = mk (upd f i) := by
 apply Array.ext_getElem?
 intro j
 unfold mk upd
 by_cases hj : j < 65
 · by_cases hi : i = j
   · subst hi; simp [hj]
   · have : ¬ j = i := fun h => hi h.symm
     simp [hj, hi, this]
 · simp [hj]
theorem mk_all (f : Nat → Bool) : (mk f).all (·.oneCell') = true := by simp [mk, Value.oneCell']
theorem Tryz.info121 : (Tryz.prog.info? 121).map (fun i => (i.zero, i.size)) = some (some (.agg (mk fun _ => false)), 65) := by kernel_rfl
def manyK (k : Int) : Bool := decide (k = 4) || decide (k = 5)
theorem many_any (k b : Int) (no : Bool) (so : Option Addr) (n c : Nat) (w : World) : Calls Tryz.prog 103 #[.agg #[.int .i64 k, .int .i64 b, .bool no, .slice so n c]] w fun e w' => e = .returned (.bool (manyK k)) ∧ Below w.heap.size w w' := by
 by_cases h4 : k = 4
 · have HE : Hid (manyK k = true) := by simp [Hid, manyK, h4]
   go_enter Tryz.func103, Tryz.ntmps103
   go_wp2
   go_ret
   exact ⟨by rw [HE.out]; rfl, al (Below.refl _ _) _⟩
 · by_cases h5 : k = 5
   · have HE : Hid (manyK k = true) := by simp [Hid, manyK, h5]
     go_enter Tryz.func103, Tryz.ntmps103
     go_wp2
     go_ret
     exact ⟨by rw [HE.out]; rfl, al (Below.refl _ _) _⟩
   · go_enter Tryz.func103, Tryz.ntmps103
     go_wp2
     go_ret
     refine ⟨?_, al (Below.refl _ _) _⟩
     show Ending.returned (Value.bool (k == 4 || k == 5)) = _
     simp [manyK, h4, h5]
def clF (L : List Pc) (f : Nat → Bool) : Nat → (Nat → Bool)
 | 0 => f
 | k + 1 => if clF L f k k && manyK ((L.getD k ⟨0, 0, false, []⟩).kind) then upd (clF L f k) (k + 1) else clF L f k
theorem getD_map (D : List PD) (k : Nat) (h : k < D.length) : ((D.map PD.p).getD k ⟨0, 0, false, []⟩) = D[k].p := by simp [List.getD_eq_getElem?_getD, h]
theorem clF_yes {D : List PD} {f : Nat → Bool} {k : Nat} (h : k < D.length) (h1 : clF (D.map PD.p) f k k = true) (h2 : manyK D[k].p.kind = true) : clF (D.map PD.p) f (k + 1) = upd (clF (D.map PD.p) f k) (k + 1) := by
 conv => lhs; unfold clF
 rw [getD_map D k h, h1, h2]
 rfl
theorem clF_no {D : List PD} {f : Nat → Bool} {k : Nat} (h : k < D.length) (h1 : (clF (D.map PD.p) f k k && manyK D[k].p.kind) = false) : clF (D.map PD.p) f (k + 1) = clF (D.map PD.p) f k := by
 conv => lhs; unfold clF
 rw [getD_map D k h, h1]
 rfl
theorem closed_any (ao : Option Addr) (cap : Nat) (D : List PD) (f : Nat → Bool) (w : World) (hl : D.length ≤ 64) (hat : PcAt w ao D) :
 Calls Tryz.prog 71 #[.slice ao D.length cap, .agg (mk f)] w fun e w' => e = .returned (.agg (mk (clF (D.map PD.p) f D.length))) ∧ Below w.heap.size w w' := by
 obtain ⟨hzv, hsz⟩ := zero_of_info Tryz.info121
 have hs := mk_size f
 have HAT := hide hat
 have HXS : Hid (Below w.heap.size w ((w.alloc (.cells (mk f) 121)).alloc (.cells (mk fun _ => false) 121))) := al (al (Below.refl _ _) _) _
 have B0 : Hid (((w.alloc (.cells (mk f) 121)).alloc (.cells (mk fun _ => false) 121)).heap[w.heap.size]? = some (.cells (mk f) 121 (0, 0))) := ((al (Below.refl _ _) (.cells (mk fun _ => false) 121) : Below (w.alloc (.cells (mk f) 121)).heap.size (w.alloc (.cells (mk f) 121)) _).block _ (by simp)).trans (heap_alloc_new _ _)
 have B1 : Hid (((w.alloc (.cells (mk f) 121)).alloc (.cells (mk fun _ => false) 121)).heap[w.heap.size + 1]? = some (.cells (mk fun _ => false) 121 (0, 0))) := by
  have := heap_alloc_new (w.alloc (.cells (mk f) 121)) (.cells (mk fun _ => false) 121)
  rwa [show (w.alloc (.cells (mk f) 121)).heap.size = w.heap.size + 1 by simp] at this
 have HZS := hide (mk_size fun _ => false)
 obtain ⟨a, ha⟩ : ∃ a, Hid (a = mk f) := ⟨_, rfl⟩
 obtain ⟨z, hz⟩ : ∃ z, Hid (z = mk fun _ => false) := ⟨_, rfl⟩
 rw [← ha.out] at hs HXS B0 B1 ⊢
 rw [← hz.out] at hzv HXS B0 B1 HZS
 clear hat
 go_enter Tryz.func71, Tryz.ntmps71
 go_wp2
 go_loopw [9] (fun x wr => ∃ k : Nat, k ≤ D.length ∧ x = .int .i64 k ∧ Hid (wr.heap[w.heap.size]? = some (.cells (mk (clF (D.map PD.p) f k)) 121 (0, 0))) ∧ Hid (wr.heap[w.heap.size + 1]? = some (.cells z 121 (0, 0))) ∧ Hid (Below w.heap.size w wr)) (fun x _ => D.length - (RowKit.intOf x).toNat)
 case atStart => exact ⟨0, Nat.zero_le _, rfl, by have h0 : a = mk (clF (D.map PD.p) f 0) := ha.out; rw [← h0]; exact B0, B1, HXS⟩
 case round =>
  obtain ⟨k, hk, rfl, BA, BZ, X⟩ := hrel
  rename World => wr
  by_cases hlt : k < D.length
  · have hlt' : (k : Int) < (D.length : Int) := by omega
    have h65 : (k : Int) < 65 := by omega
    have h66 : (k : Int) + 1 < 65 := by omega
    rcases HAT.out with h | ⟨b, off, rfl, hb, hc⟩
    · rw [h] at hlt; simp at hlt
    obtain ⟨p0, p1, p2, p3, _⟩ := hc k hlt
    have hbw : b < wr.heap.size := Nat.lt_of_lt_of_le hb X.out.size
    have r0 := (X.out.cell (p := ⟨b, off + k * 4, none⟩) hb).trans p0
    have r1 := (X.out.cell (p := ⟨b, off + k * 4 + 1, none⟩) hb).trans p1
    have r2 := (X.out.cell (p := ⟨b, off + k * 4 + 2, none⟩) hb).trans p2
    have r3 := (X.out.cell (p := ⟨b, off + k * 4 + 3, none⟩) hb).trans p3
    have HY := hide (fun h1 h2 => clF_yes (D := D) (f := f) (k := k) hlt h1 h2)
    have HN := hide (fun h1 => clF_no (D := D) (f := f) (k := k) hlt h1)
    have HMN := hide (fun w => many_any D[k].p.kind D[k].p.b D[k].p.no D[k].so D[k].p.set.length D[k].sc w)
    generalize D[k].p.kind = kd at *
    generalize D[k].p.b = kb at *
    generalize D[k].p.no = kn at *
    generalize D[k].p.set.length = kl at *
    generalize D[k].so = ks at *
    generalize D[k].sc = kc at *
    have X4 := hide (al (Below.refl wr.heap.size wr) (.cells #[.int .i64 kd, .int .i64 kb, .bool kn, .slice ks kl kc] 96))
    have BA4 := hide ((X4.out.block _ (lt_of_block BA.out)).trans BA.out)
    have c0 : (wr.alloc (.cells #[.int .i64 kd, .int .i64 kb, .bool kn, .slice ks kl kc] 96)).cell? ⟨w.heap.size, k, none⟩ = some (.bool (clF (D.map PD.p) f k k)) := by rw [cell_of_row _ _ _ _ _ _ BA4.out]; exact mk_get _ _ (by omega)
    clear hc p0 p1 p2 p3
    cases hf : clF (D.map PD.p) f k k with
    | false =>
      have HE := hide (HN.out (by rw [hf, Bool.false_and]))
      rw [hf] at c0
      go_wp2
      go_roundw
      case rel => exact ⟨k + 1, by omega, by go_num, by unfold Hid; rw [HE.out]; exact BA4.out, (X4.out.block _ (lt_of_block BZ.out)).trans BZ.out, bt X.out X4.out (Nat.le_refl _)⟩
      case measure => simp [RowKit.intOf]; omega
    | true =>
      rw [hf] at c0
      cases hm : manyK kd with
      | false =>
        have HE := hide (HN.out (by rw [hm, Bool.and_false]))
        rw [hm] at HMN
        go_wp2_with (go_at_call 103; refine (HMN.out _).mono ?_; rintro e w5 ⟨rfl, x5⟩; have X5 := hide (bt X4.out x5 (Nat.le_refl _)); clear x5)
        go_roundw
        case rel => exact ⟨k + 1, by omega, by go_num, by unfold Hid; rw [HE.out]; exact (X5.out.block _ (lt_of_block BA.out)).trans BA.out, (X5.out.block _ (lt_of_block BZ.out)).trans BZ.out, bt X.out X5.out (Nat.le_refl _)⟩
        case measure => simp [RowKit.intOf]; omega
      | true =>
        have HE := hide (HY.out hf hm)
        rw [hm] at HMN
        go_wp2_with (go_at_call 103; refine (HMN.out _).mono ?_; rintro e w5 ⟨rfl, x5⟩; have X5 := hide (bt X4.out x5 (Nat.le_refl _)); have BA5 := hide ((X5.out.block _ (lt_of_block BA.out)).trans BA.out); have d1 : w5.cell? ⟨w.heap.size, k + 1, none⟩ = some (.bool (clF (D.map PD.p) f k (k + 1))) := (by rw [cell_of_row _ _ _ _ _ _ BA5.out]; exact mk_get _ _ (by omega)); have g1 := frozen_of_row _ _ (k + 1) _ _ BA5.out; clear x5)
        go_roundw
        case rel =>
         have hk6 : Kept (fun i => i = w.heap.size) w5 (w5.setCell ⟨w.heap.size, k + 1, none⟩ (.bool true)) := Kept.setCell (F := fun i => i = w.heap.size) (p := ⟨w.heap.size, k + 1, none⟩) (Kept.refl _ _) rfl _
         have B5Z := (X5.out.block _ (lt_of_block BZ.out)).trans BZ.out
         refine ⟨k + 1, by omega, by go_num, ?_, (hk6.block _ (lt_of_block B5Z) (by omega)).trans B5Z, ?_⟩
         · unfold Hid
           rw [HE.out, ← mk_set]
           exact block_setCell BA5.out (k + 1) _
         · exact (bt X.out X5.out (Nat.le_refl _)).trans (hk6.below (Nat.le_trans X.out.size X5.out.size) (fun i hi => by omega))
        case measure => simp [RowKit.intOf]; omega
  · have hnl : ¬ (k : Int) < (D.length : Int) := by omega
    have hkl : k = D.length := by omega
    subst hkl
    have HI : Hid ((Tryz.prog.info? 121).map (·.size) = some (mk (clF (D.map PD.p) f D.length)).size) := by unfold Hid; rw [hsz, mk_size]
    have HZ2 : Hid (z.size = (mk (clF (D.map PD.p) f D.length)).size) := by unfold Hid; rw [HZS.out, mk_size]
    have HAL := hide (mk_all (clF (D.map PD.p) f D.length))
    have HBN := hide (setRow_heap wr (w.heap.size + 1) z (mk (clF (D.map PD.p) f D.length)) 121 (0, 0) BZ.out)
    have HXN := hide (below_setRow X.out (Nat.le_succ _) (mk (clF (D.map PD.p) f D.length)))
    clear hzv hsz hs
    obtain ⟨m, hm⟩ : ∃ m, Hid (m = mk (clF (D.map PD.p) f D.length)) := ⟨_, rfl⟩
    rw [← hm.out] at HI HZ2 HAL HBN HXN BA
    go_wp2_with (first
     | (refine wpList_load_row rfl 121 (.tmp 3) rfl w.heap.size rfl 121 m (0, 0) _ BA.out Tryz.underlying121 rfl HI.out ?_)
     | (refine wpList_store_row rfl 121 (.tmp 4) (.tmp 25) rfl (w.heap.size + 1) m rfl rfl 121 z BZ.out HI.out HZ2.out HAL.out ?_))
    refine bodyPost_ret (v := .agg m) (results_cell_row rfl _ _ (w.heap.size + 1) 121 m (0, 0) _ rfl HBN.out Tryz.underlying121 rfl HI.out) rfl ?_
    exact ⟨by rw [hm.out], HXN.out⟩
def RS (L : List Spn) : Prop := IsSet L ∧ L ≠ [] ∧ ∀ s ∈ L, 32 ≤ s.1 ∧ s.2 ≤ 126
theorem isSet_first {L : List Spn} (h : IsSet L) {x : Int} (hx : x ≤ (L.getD 0 (0, 0)).1) : ∀ s ∈ L, x ≤ s.1 := by
 cases L with
 | nil => intro s hs; cases hs
 | cons t L =>
   intro s hs
   simp only [List.getD_cons_zero] at hx
   rcases List.mem_cons.1 hs with rfl | hs
   · exact hx
   · have h1 := (List.pairwise_cons.1 h.2).1 s hs
     have h2 := h.head
     unfold Bnd at h2
     omega
theorem isSet_last {L : List Spn} (h : IsSet L) {x : Int} (hx : (L.getD (L.length - 1) (0, 0)).2 ≤ x) : ∀ s ∈ L, s.2 ≤ x := by
 intro s hs
 obtain ⟨i, hi, rfl⟩ := List.getElem_of_mem hs
 rw [List.getD_eq_getElem?_getD, List.getElem?_eq_getElem (by omega)] at hx
 simp only [Option.getD_some] at hx
 by_cases he : i = L.length - 1
 · subst he; exact hx
 · have h1 := (List.pairwise_iff_getElem.1 h.2) i (L.length - 1) hi (by omega) (by omega)
   have h2 := h.1 _ (List.getElem_mem (show L.length - 1 < L.length by omega))
   unfold Bnd at h2
   omega
theorem RS_iff {L : List Spn} (h : IsSet L) (h0 : 0 < L.length) : RS L ↔ 32 ≤ (L.getD 0 (0, 0)).1 ∧ (L.getD (L.length - 1) (0, 0)).2 ≤ 126 := by
 constructor
 · intro ⟨_, _, h3⟩
   have a1 := (h3 _ (List.getElem_mem h0)).1
   have a2 := (h3 _ (List.getElem_mem (show L.length - 1 < L.length by omega))).2
   rw [List.getD_eq_getElem?_getD, List.getElem?_eq_getElem h0, List.getD_eq_getElem?_getD, List.getElem?_eq_getElem (show L.length - 1 < L.length by omega)]
   exact ⟨a1, a2⟩
 · intro ⟨h1, h2⟩
   exact ⟨h, fun e => by rw [e] at h0; exact absurd h0 (Nat.lt_irrefl _), fun s hs => ⟨isSet_first h h1 s hs, isSet_last h h2 s hs⟩⟩
def YesNo (p : Prop) (e : Ending) : Prop := (p ∧ e = .returned (.bool true)) ∨ (¬ p ∧ e = .returned (.bool false))
theorem YesNo.yes {p : Prop} (h : p) {e : Ending} (he : e = .returned (.bool true)) : YesNo p e := .inl ⟨h, he⟩
theorem YesNo.no {p : Prop} (h : ¬ p) {e : Ending} (he : e = .returned (.bool false)) : YesNo p e := .inr ⟨h, he⟩
theorem rightSet_any (so : Option Addr) (cap : Nat) (L : List Spn) (w : World) (hl : L.length ≤ 140737488351232) (hat : SpAt w so L) :
 Calls Tryz.prog 131 #[.slice so L.length cap] w fun e w' => YesNo (RS L) e ∧ Below w.heap.size w w' := by
 have hr := right_any so cap L w hl hat
 by_cases hs : IsSet L
 · rw [decide_eq_true hs] at hr
   by_cases h0 : 0 < L.length
   · obtain ⟨b, off, rfl, hb, hc⟩ := hat.get h0
     have c0 := (hc 0 h0).1
     have c1 := (hc (L.length - 1) (by omega)).2
     simp only [Nat.zero_mul, Nat.add_zero] at c0
     have hRS := RS_iff hs h0
     have h0' : (0 : Int) < (L.length : Int) := by omega
     have hw : IntKind.i64.wrap ((L.length : Int) - 1) = ((L.length - 1 : Nat) : Int) := by simp [IntKind.wrap, IntKind.bits, IntKind.signed]; omega
     have hlt : ((L.length - 1 : Nat) : Int) < (L.length : Int) := by omega
     have HR := hide hr
     obtain ⟨n1, hn1⟩ : ∃ n1, Hid (n1 = L.length - 1) := ⟨_, rfl⟩
     rw [← hn1.out] at c1 hRS hw hlt
     have HRS := hide hRS
     generalize (L.getD 0 (0, 0)).1 = x at *
     generalize (L.getD n1 (0, 0)).2 = y at *
     clear hr hc hat hRS
     by_cases h32 : (32 : Int) ≤ x
     · by_cases h126 : y ≤ 126
       · have HY : Hid (RS L) := HRS.out.2 ⟨h32, h126⟩
         go_enter Tryz.func131, Tryz.ntmps131
         go_wp2_with (go_at_call 132; refine HR.out.mono ?_; rintro e w2 ⟨rfl, x2⟩; have X2 := hide x2; have d0 := (x2.cell (p := ⟨b, off, none⟩) hb).trans c0; have d1 := (x2.cell (p := ⟨b, off + n1 * 2 + 1, none⟩) hb).trans c1; clear x2)
         go_ret
         exact ⟨.yes HY.out rfl, X2.out⟩
       · have HN : Hid (¬ RS L) := fun h => h126 (HRS.out.1 h).2
         go_enter Tryz.func131, Tryz.ntmps131
         go_wp2_with (go_at_call 132; refine HR.out.mono ?_; rintro e w2 ⟨rfl, x2⟩; have X2 := hide x2; have d0 := (x2.cell (p := ⟨b, off, none⟩) hb).trans c0; have d1 := (x2.cell (p := ⟨b, off + n1 * 2 + 1, none⟩) hb).trans c1; clear x2)
         go_ret
         exact ⟨.no HN.out (show Ending.returned (Value.bool (decide (y ≤ 126))) = _ by rw [decide_eq_false (by omega)]), X2.out⟩
     · have HN : Hid (¬ RS L) := fun h => h32 (HRS.out.1 h).1
       go_enter Tryz.func131, Tryz.ntmps131
       go_wp2_with (go_at_call 132; refine HR.out.mono ?_; rintro e w2 ⟨rfl, x2⟩; have X2 := hide x2; have d0 := (x2.cell (p := ⟨b, off, none⟩) hb).trans c0; have d1 := (x2.cell (p := ⟨b, off + n1 * 2 + 1, none⟩) hb).trans c1; clear x2)
       go_ret
       exact ⟨.no HN.out rfl, X2.out⟩
   · have hn : ¬ (0 : Int) < (L.length : Int) := by omega
     have HN : Hid (¬ RS L) := fun h => h.2.1 (List.eq_nil_of_length_eq_zero (by omega))
     clear hat
     go_enter Tryz.func131, Tryz.ntmps131
     go_wp2_with (go_at_call 132; refine hr.mono ?_; rintro e w2 ⟨rfl, x2⟩; have X2 := hide x2; clear x2)
     go_ret
     exact ⟨.no HN.out rfl, X2.out⟩
 · rw [decide_eq_false hs] at hr
   have HN : Hid (¬ RS L) := fun h => hs h.1
   clear hat
   go_enter Tryz.func131, Tryz.ntmps131
   go_wp2_with (go_at_call 132; refine hr.mono ?_; rintro e w2 ⟨rfl, x2⟩; have X2 := hide x2; clear x2)
   go_ret
   exact ⟨.no HN.out rfl, X2.out⟩
theorem Rp_one {b : Int} {no : Bool} {S : List Spn} : Rp ⟨1, b, no, S⟩ ↔ 32 ≤ b ∧ b ≤ 126 ∧ no = false ∧ S = [] := by
 unfold Rp
 constructor
 · intro h
   rcases h with h | h | h
   · exact h.2
   · rcases h.1 with h | h | h
     · exact absurd (show (1 : Int) = 2 from h) (by decide)
     · exact absurd (show (1 : Int) = 4 from h) (by decide)
     · exact absurd (show (1 : Int) = 5 from h) (by decide)
   · exact absurd (show (1 : Int) = 3 from h.1) (by decide)
 · exact fun h => .inl ⟨rfl, h⟩
theorem Rp_plain {k b : Int} {no : Bool} {S : List Spn} (hk : k = 2 ∨ k = 4 ∨ k = 5) : Rp ⟨k, b, no, S⟩ ↔ b = 0 ∧ no = false ∧ S = [] := by
 unfold Rp
 constructor
 · intro h
   rcases h with h | h | h
   · have h1 : k = 1 := h.1
     omega
   · exact h.2
   · have h1 : k = 3 := h.1
     omega
 · exact fun h => .inr (.inl ⟨hk, h⟩)
theorem Rp_set {b : Int} {no : Bool} {S : List Spn} : Rp ⟨3, b, no, S⟩ ↔ b = 0 ∧ RS S := by
 unfold Rp
 constructor
 · intro h
   rcases h with h | h | h
   · exact absurd (show (3 : Int) = 1 from h.1) (by decide)
   · rcases h.1 with h | h | h
     · exact absurd (show (3 : Int) = 2 from h) (by decide)
     · exact absurd (show (3 : Int) = 4 from h) (by decide)
     · exact absurd (show (3 : Int) = 5 from h) (by decide)
   · exact ⟨h.2.1, h.2.2⟩
 · exact fun h => .inr (.inr ⟨rfl, h.1, h.2⟩)
theorem Rp_other {k b : Int} {no : Bool} {S : List Spn} (h1 : ¬ k = 1) (h2 : ¬ k = 2) (h3 : ¬ k = 3) (h4 : ¬ k = 4) (h5 : ¬ k = 5) : ¬ Rp ⟨k, b, no, S⟩ := by
 unfold Rp
 intro h
 rcases h with h | h | h
 · exact h1 h.1
 · rcases h.1 with h | h | h
   · exact h2 h
   · exact h4 h
   · exact h5 h
 · exact h3 h.1
theorem rightPiece_any (kd kb : Int) (kn : Bool) (ks : Option Addr) (kc : Nat) (S : List Spn) (w : World) (hl : S.length ≤ 140737488351232) (hat : SpAt w ks S) :
 Calls Tryz.prog 102 #[.agg #[.int .i64 kd, .int .i64 kb, .bool kn, .slice ks S.length kc]] w fun e w' => YesNo (Rp ⟨kd, kb, kn, S⟩) e ∧ Below w.heap.size w w' := by
 by_cases h1 : kd = 1
 · subst h1
   clear hat
   by_cases a1 : (32 : Int) ≤ kb
   · by_cases a2 : kb ≤ 126
     · cases kn with
       | true =>
         have HN : Hid (¬ Rp ⟨1, kb, true, S⟩) := fun h => by have := (Rp_one.1 h).2.2.1; cases this
         go_enter Tryz.func102, Tryz.ntmps102
         go_wp2
         go_ret
         exact ⟨.no HN.out rfl, al (Below.refl _ _) _⟩
       | false =>
         by_cases a4 : S = []
         · have HY : Hid (Rp ⟨1, kb, false, S⟩) := Rp_one.2 ⟨a1, a2, rfl, a4⟩
           subst a4
           simp only [List.length_nil]
           go_enter Tryz.func102, Tryz.ntmps102
           go_wp2
           go_ret
           exact ⟨.yes HY.out rfl, al (Below.refl _ _) _⟩
         · have HN : Hid (¬ Rp ⟨1, kb, false, S⟩) := fun h => a4 (Rp_one.1 h).2.2.2
           have a5 : ¬ ((S.length : Nat) : Int) = 0 := fun h => a4 (List.eq_nil_of_length_eq_zero (by omega))
           go_enter Tryz.func102, Tryz.ntmps102
           go_wp2
           go_ret
           exact ⟨.no HN.out (show Ending.returned (Value.bool (((S.length : Nat) : Int) == 0)) = _ by rw [beq_eq_false_iff_ne.2 a5]), al (Below.refl _ _) _⟩
     · have HN : Hid (¬ Rp ⟨1, kb, kn, S⟩) := fun h => a2 (Rp_one.1 h).2.1
       go_enter Tryz.func102, Tryz.ntmps102
       go_wp2
       go_ret
       exact ⟨.no HN.out rfl, al (Below.refl _ _) _⟩
   · have HN : Hid (¬ Rp ⟨1, kb, kn, S⟩) := fun h => a1 (Rp_one.1 h).1
     go_enter Tryz.func102, Tryz.ntmps102
     go_wp2
     go_ret
     exact ⟨.no HN.out rfl, al (Below.refl _ _) _⟩
 · by_cases h2 : kd = 2
   · subst h2
     clear hat
     by_cases a1 : kb = 0
     · subst a1
       cases kn with
       | true =>
         have HN : Hid (¬ Rp ⟨2, 0, true, S⟩) := fun h => by have := ((Rp_plain (by decide)).1 h).2.1; cases this
         go_enter Tryz.func102, Tryz.ntmps102
         go_wp2
         go_ret
         exact ⟨.no HN.out rfl, al (Below.refl _ _) _⟩
       | false =>
         by_cases a4 : S = []
         · have HY : Hid (Rp ⟨2, 0, false, S⟩) := (Rp_plain (by decide)).2 ⟨rfl, rfl, a4⟩
           subst a4
           simp only [List.length_nil]
           go_enter Tryz.func102, Tryz.ntmps102
           go_wp2
           go_ret
           exact ⟨.yes HY.out rfl, al (Below.refl _ _) _⟩
         · have HN : Hid (¬ Rp ⟨2, 0, false, S⟩) := fun h => a4 ((Rp_plain (by decide)).1 h).2.2
           have a5 : ¬ ((S.length : Nat) : Int) = 0 := fun h => a4 (List.eq_nil_of_length_eq_zero (by omega))
           go_enter Tryz.func102, Tryz.ntmps102
           go_wp2
           go_ret
           exact ⟨.no HN.out (show Ending.returned (Value.bool (((S.length : Nat) : Int) == 0)) = _ by rw [beq_eq_false_iff_ne.2 a5]), al (Below.refl _ _) _⟩
     · have HN : Hid (¬ Rp ⟨2, kb, kn, S⟩) := fun h => a1 ((Rp_plain (by decide)).1 h).1
       go_enter Tryz.func102, Tryz.ntmps102
       go_wp2
       go_ret
       exact ⟨.no HN.out rfl, al (Below.refl _ _) _⟩
   · by_cases h4 : kd = 4
     · subst h4
       clear hat
       by_cases a1 : kb = 0
       · subst a1
         cases kn with
         | true =>
           have HN : Hid (¬ Rp ⟨4, 0, true, S⟩) := fun h => by have := ((Rp_plain (by decide)).1 h).2.1; cases this
           go_enter Tryz.func102, Tryz.ntmps102
           go_wp2
           go_ret
           exact ⟨.no HN.out rfl, al (Below.refl _ _) _⟩
         | false =>
           by_cases a4 : S = []
           · have HY : Hid (Rp ⟨4, 0, false, S⟩) := (Rp_plain (by decide)).2 ⟨rfl, rfl, a4⟩
             subst a4
             simp only [List.length_nil]
             go_enter Tryz.func102, Tryz.ntmps102
             go_wp2
             go_ret
             exact ⟨.yes HY.out rfl, al (Below.refl _ _) _⟩
           · have HN : Hid (¬ Rp ⟨4, 0, false, S⟩) := fun h => a4 ((Rp_plain (by decide)).1 h).2.2
             have a5 : ¬ ((S.length : Nat) : Int) = 0 := fun h => a4 (List.eq_nil_of_length_eq_zero (by omega))
             go_enter Tryz.func102, Tryz.ntmps102
             go_wp2
             go_ret
             exact ⟨.no HN.out (show Ending.returned (Value.bool (((S.length : Nat) : Int) == 0)) = _ by rw [beq_eq_false_iff_ne.2 a5]), al (Below.refl _ _) _⟩
       · have HN : Hid (¬ Rp ⟨4, kb, kn, S⟩) := fun h => a1 ((Rp_plain (by decide)).1 h).1
         go_enter Tryz.func102, Tryz.ntmps102
         go_wp2
         go_ret
         exact ⟨.no HN.out rfl, al (Below.refl _ _) _⟩
     · by_cases h5 : kd = 5
       · subst h5
         clear hat
         by_cases a1 : kb = 0
         · subst a1
           cases kn with
           | true =>
             have HN : Hid (¬ Rp ⟨5, 0, true, S⟩) := fun h => by have := ((Rp_plain (by decide)).1 h).2.1; cases this
             go_enter Tryz.func102, Tryz.ntmps102
             go_wp2
             go_ret
             exact ⟨.no HN.out rfl, al (Below.refl _ _) _⟩
           | false =>
             by_cases a4 : S = []
             · have HY : Hid (Rp ⟨5, 0, false, S⟩) := (Rp_plain (by decide)).2 ⟨rfl, rfl, a4⟩
               subst a4
               simp only [List.length_nil]
               go_enter Tryz.func102, Tryz.ntmps102
               go_wp2
               go_ret
               exact ⟨.yes HY.out rfl, al (Below.refl _ _) _⟩
             · have HN : Hid (¬ Rp ⟨5, 0, false, S⟩) := fun h => a4 ((Rp_plain (by decide)).1 h).2.2
               have a5 : ¬ ((S.length : Nat) : Int) = 0 := fun h => a4 (List.eq_nil_of_length_eq_zero (by omega))
               go_enter Tryz.func102, Tryz.ntmps102
               go_wp2
               go_ret
               exact ⟨.no HN.out (show Ending.returned (Value.bool (((S.length : Nat) : Int) == 0)) = _ by rw [beq_eq_false_iff_ne.2 a5]), al (Below.refl _ _) _⟩
         · have HN : Hid (¬ Rp ⟨5, kb, kn, S⟩) := fun h => a1 ((Rp_plain (by decide)).1 h).1
           go_enter Tryz.func102, Tryz.ntmps102
           go_wp2
           go_ret
           exact ⟨.no HN.out rfl, al (Below.refl _ _) _⟩
       · by_cases h3 : kd = 3
         · subst h3
           by_cases a1 : kb = 0
           · subst a1
             have HS := hide (fun W (x : Below w.heap.size w W) => rightSet_any ks kc S W hl (hat.below x))
             have X1 := hide (al (Below.refl w.heap.size w) (.cells #[.int .i64 3, .int .i64 0, .bool kn, .slice ks S.length kc] 96))
             clear hat
             go_enter Tryz.func102, Tryz.ntmps102
             go_wp2_with (fail)
             refine (HS.out _ X1.out).mono ?_
             rintro e w2 ⟨h2, x2⟩
             have X2 := hide (bt X1.out x2 (Nat.le_refl _))
             clear x2
             rcases h2 with ⟨hp, rfl⟩ | ⟨hp, rfl⟩
             · have HY : Hid (Rp ⟨3, 0, kn, S⟩) := Rp_set.2 ⟨rfl, hp⟩
               clear hp
               go_wp2
               go_ret
               exact ⟨.yes HY.out rfl, X2.out⟩
             · have HN : Hid (¬ Rp ⟨3, 0, kn, S⟩) := fun h => hp (Rp_set.1 h).2
               clear hp
               go_wp2
               go_ret
               exact ⟨.no HN.out rfl, X2.out⟩
           · have HN : Hid (¬ Rp ⟨3, kb, kn, S⟩) := fun h => a1 (Rp_set.1 h).1
             clear hat
             go_enter Tryz.func102, Tryz.ntmps102
             go_wp2
             go_ret
             exact ⟨.no HN.out rfl, al (Below.refl _ _) _⟩
         · have HN : Hid (¬ Rp ⟨kd, kb, kn, S⟩) := Rp_other h1 h2 h3 h4 h5
           clear hat
           go_enter Tryz.func102, Tryz.ntmps102
           go_wp2
           go_ret
           exact ⟨.no HN.out rfl, al (Below.refl _ _) _⟩
end Go.Proofs.YtdgoilkgplnhfaaGreat
