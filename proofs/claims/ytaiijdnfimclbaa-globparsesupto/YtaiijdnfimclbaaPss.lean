/-
  GlobParses, walked. Condition: texts have at most 2^32 bytes.
-/
import Derived.Test.YtaiijdnfimclbaaBkt
import Derived.Test.YtaiijdnfimclbaaRps
import Derived.Test.YtaiijdnfimclbaaSme
import Derived.Test.YtaiijdnfimclbaaKnw
namespace Go.Proofs.Ytaiijdnfimclbaa
open Go.RowKit Go.Lib

theorem three_of {α : Type} (l : List α) (h : l.length = 3) : ∃ a b c, l = [a, b, c] := by
  match l, h with
  | [a, b, c], _ => exact ⟨a, b, c, rfl⟩
/-- What a text is read as; the code and the place that are told. -/
def res (x : By) : List Pc := match parL x with
  | .ok L => L
  | .error _ => []
def cd1 (x : By) : Int := match parL x with
  | .ok _ => 0
  | .error _ => 50
def cd2 (x : By) : Int := match parL x with
  | .ok _ => 0
  | .error t => ((x.length - t.length : Nat) : Int)
theorem res_right (x : By) : Rt (res x) := by
  unfold res
  cases h : parL x with
  | ok L => exact parL_right h
  | error t => exact Rt.nil
theorem PaIs.uni {x : By} {base : Nat} {e : Ending} {w' : World} (h : PaIs x base (parL x) e w') : ∃ v D, e = .returned (.tuple #[v, .int .i64 (cd1 x), .int .i64 (cd2 x)]) ∧ OwnP w' base v D ∧ D.map PD.p = res x := by
  unfold cd1 cd2 res
  cases hp : parL x with
  | ok L =>
    obtain ⟨v, D, h1, h2, h3⟩ := h.ok hp
    exact ⟨v, D, h1, h2, h3⟩
  | error t =>
    obtain ⟨h1, _⟩ := h.err hp
    exact ⟨_, [], h1, OwnP.nil _ _, rfl⟩
theorem OwnP.mono {w : World} {base b : Nat} {v : Value} {D : List PD} (h : OwnP w base v D) (hb : b ≤ base) : OwnP w b v D :=
  ⟨own_mono h.row hb, fun d hd => (h.sets d hd).mono hb, h.apart⟩
abbrev PR := Value × List PD
def ldr (r : PR) : LD := ⟨r.1, r.2.length⟩
def flat (Rs : List PR) : List PD := Rs.flatMap Prod.snd
/-- What stands between two texts. -/
structure PsS (s o : By) (w1 : World) (Rs : List PR) (lv sv : Value) (i : Nat) (wr : World) : Prop where
  bks : BkS (w1.heap.size + 2) (w1.heap.size + 1) (Rs.map ldr) ((flat Rs).map sld) lv sv wr
  own : ∀ r ∈ Rs, OwnP wr (w1.heap.size + 2) r.1 r.2
  apL : ApartL (Rs.map ldr)
  apS : ApartL ((flat Rs).map sld)
  con : Rs.map (fun r => r.2.map PD.p) = [res s, res o, res s].take i
  ask : wr.heap[w1.heap.size]? = some (.cells #[.string ⟨s.toArray⟩, .string ⟨o.toArray⟩, .string ⟨s.toArray⟩] 9 (0, 0))
  bel : Below w1.heap.size w1 wr
section
variable {s o : By} {w1 : World} {Rs : List PR} {lv sv : Value} {i : Nat} {wr : World}
theorem PsS.below (h : PsS s o w1 Rs lv sv i wr) {w' : World} (x : Below wr.heap.size wr w') : PsS s o w1 Rs lv sv i w' :=
  ⟨h.bks.below x, fun r hr => (h.own r hr).below x, h.apL, h.apS, h.con, (x.block _ (lt_of_block h.ask)).trans h.ask, bt h.bel x (Nat.le_refl _)⟩
theorem PsS.mem (h : PsS s o w1 Rs lv sv i wr) {r : PR} (hr : r ∈ Rs) : ∃ x, r.2.map PD.p = res x := by
  have : r.2.map PD.p ∈ [res s, res o, res s].take i := by rw [← h.con]; exact List.mem_map.2 ⟨r, hr, rfl⟩
  have := List.mem_of_mem_take this
  simp only [List.mem_cons, List.not_mem_nil, or_false] at this
  rcases this with h | h | h
  · exact ⟨s, h⟩
  · exact ⟨o, h⟩
  · exact ⟨s, h⟩
theorem res_len {D : List PD} {x : By} (h : D.map PD.p = res x) : D.length ≤ 64 ∧ ∀ d ∈ D, d.p.set.length ≤ 4294967296 := by
  have hr := res_right x
  rw [← h] at hr
  exact ⟨by simpa using hr.1, fun d hd => right_set_len hr d.p (List.mem_map.2 ⟨d, hd, rfl⟩)⟩
theorem flatR_len : ∀ {Rs : List PR}, (∀ r ∈ Rs, r.2.length ≤ 64) → (flat Rs).length ≤ 64 * Rs.length
  | [], _ => by simp [flat]
  | r :: Rs, h => by
    have h1 := flatR_len (fun x hx => h x (List.mem_cons_of_mem _ hx)) (Rs := Rs)
    have h2 := h r List.mem_cons_self
    unfold flat at h1 ⊢
    rw [List.flatMap_cons, List.length_append, List.length_cons]
    omega
theorem PsS.lens (h : PsS s o w1 Rs lv sv i wr) : Rs.length ≤ 3 ∧ (flat Rs).length ≤ 192 := by
  have h1 : Rs.length ≤ 3 := by
    have := congrArg List.length h.con
    rw [List.length_map, List.length_take] at this
    simp at this
    omega
  have h2 := flatR_len (Rs := Rs) (fun r hr => by obtain ⟨x, hx⟩ := h.mem hr; exact (res_len hx).1)
  exact ⟨h1, by omega⟩
theorem PsS.next {w4 w5 w6 w7 : World} {v lv' sv' : Value} {D : List PD} {x : By} (h : PsS s o w1 Rs lv sv i wr) (hi : i < 3) (hx : [s, o, s][i]? = some x) (hD : D.map PD.p = res x) (x4 : Below wr.heap.size wr w4) (x5 : Below w4.heap.size w4 w5) (x6 : Below w5.heap.size w5 w6) (ho : OwnP w5 w4.heap.size v D)
    (ht : TkS w6 (w1.heap.size + 2) (w1.heap.size + 1) (Rs.map ldr ++ [⟨v, D.length⟩]) ((flat Rs).map sld) v D lv' sv' D.length w7) : PsS s o w1 (Rs ++ [(v, D)]) lv' sv' (i + 1) w7 := by
  have h6 : PsS s o w1 Rs lv sv i w6 := ((h.below x4).below x5).below x6
  have hlt : ∀ r ∈ Rs, (∀ k, r.1.ownBlock = some k → k < wr.heap.size) ∧ ∀ d ∈ r.2, ∀ k, d.v.ownBlock = some k → k < wr.heap.size := fun r hr =>
    ⟨fun k hk => (World.ownsRow.lt (h.own r hr).row k hk).2, fun d hd k hk => (((h.own r hr).sets d hd).lt k hk).2⟩
  have hge : (∀ k, v.ownBlock = some k → wr.heap.size ≤ k) ∧ ∀ d ∈ D, ∀ k, d.v.ownBlock = some k → wr.heap.size ≤ k :=
    ⟨fun k hk => Nat.le_trans x4.size (World.ownsRow.lt ho.row k hk).1, fun d hd k hk => Nat.le_trans x4.size ((ho.sets d hd).lt k hk).1⟩
  have hfl : flat (Rs ++ [(v, D)]) = flat Rs ++ D := by simp [flat]
  refine ⟨?_, fun r hr => ?_, ?_, ?_, ?_, ht.keep _ _ _ _ (by unfold Q3; decide) h6.ask, ?_⟩
  · have := ht.bks
    rw [List.take_length, ← List.map_append, ← hfl] at this
    rw [List.map_append]
    exact this
  · rcases List.mem_append.1 hr with hr | hr
    · exact (h6.own r hr).keepT ht.keep (by unfold Q3; decide) (by unfold Q3; decide)
    · rw [List.mem_singleton.1 hr]; exact ht.own
  · unfold ApartL
    rw [List.map_append, List.pairwise_append]
    refine ⟨h.apL, List.pairwise_singleton _ _, fun a ha b hb k hk1 hk2 => ?_⟩
    obtain ⟨r, hr, rfl⟩ := List.mem_map.1 ha
    rw [List.map_singleton, List.mem_singleton] at hb
    subst hb
    have := (hlt r hr).1 k hk1
    have := hge.1 k hk2
    omega
  · unfold ApartL
    rw [hfl, List.map_append, List.pairwise_append]
    refine ⟨h.apS, ?_, fun a ha b hb k hk1 hk2 => ?_⟩
    · rw [List.pairwise_map]
      exact ho.apart
    · obtain ⟨d, hd, rfl⟩ := List.mem_map.1 ha
      obtain ⟨e, he, rfl⟩ := List.mem_map.1 hb
      obtain ⟨r, hr, hdr⟩ := List.mem_flatMap.1 hd
      have := (hlt r hr).2 d hdr k hk1
      have := hge.2 e he k hk2
      omega
  · rw [List.map_append, h.con, List.take_add_one]
    have : [res s, res o, res s][i]? = some (res x) := by
      match i, hi, hx with
      | 0, _, hx => simp at hx; subst hx; rfl
      | 1, _, hx => simp at hx; subst hx; rfl
      | 2, _, hx => simp at hx; subst hx; rfl
    rw [this]
    simp [hD]
  · exact h6.bel.trans (ht.kept.below h6.bel.size (fun k hk => by rcases hk with hk | hk <;> omega))
theorem PsS.lsL (h : PsS s o w1 Rs lv sv i wr) : LsAt 29 44 4 wr (w1.heap.size + 2) lv (Rs.map ldr) (fun j => pdCells ((Rs[j]?.map Prod.snd).getD [])) := by
  refine ⟨h.bks.rl, fun j hj => ?_, h.apL⟩
  rw [List.length_map] at hj
  have := (h.own Rs[j] (List.getElem_mem hj)).row
  simpa [hj, ldr] using this
theorem PsS.lsS (h : PsS s o w1 Rs lv sv i wr) : LsAt 42 59 2 wr (w1.heap.size + 2) sv ((flat Rs).map sld) (fun j => spCells (((flat Rs)[j]?.map (fun d => d.p.set)).getD [])) := by
  refine ⟨h.bks.rs, fun j hj => ?_, h.apS⟩
  rw [List.length_map] at hj
  obtain ⟨r, hr, hd⟩ := List.mem_flatMap.1 (List.getElem_mem hj)
  have : wr.ownsRow (w1.heap.size + 2) 59 2 (flat Rs)[j].v (flat Rs)[j].p.set.length (spCells (flat Rs)[j].p.set) := (h.own r hr).sets _ hd
  simpa [hj, sld] using this
theorem PsS.start (w1 : World) (s o : By) : PsS s o w1 [] (.slice none 0 0) (.slice none 0 0) 0 ((w1.alloc (.cells #[.string ⟨s.toArray⟩, .string ⟨o.toArray⟩, .string ⟨s.toArray⟩] 9)).alloc (.cells #[.slice none 0 0, .slice none 0 0] 28)) := by
  have B4 := heap_alloc_new w1 (.cells #[.string ⟨s.toArray⟩, .string ⟨o.toArray⟩, .string ⟨s.toArray⟩] 9)
  have hsz : (w1.alloc (.cells #[.string ⟨s.toArray⟩, .string ⟨o.toArray⟩, .string ⟨s.toArray⟩] 9)).heap.size = w1.heap.size + 1 := by simp
  have Y1 : Below (w1.alloc (.cells #[.string ⟨s.toArray⟩, .string ⟨o.toArray⟩, .string ⟨s.toArray⟩] 9)).heap.size (w1.alloc (.cells #[.string ⟨s.toArray⟩, .string ⟨o.toArray⟩, .string ⟨s.toArray⟩] 9)) ((w1.alloc (.cells #[.string ⟨s.toArray⟩, .string ⟨o.toArray⟩, .string ⟨s.toArray⟩] 9)).alloc (.cells #[.slice none 0 0, .slice none 0 0] 28)) := al (Below.refl _ _) _
  have B5 := heap_alloc_new (w1.alloc (.cells #[.string ⟨s.toArray⟩, .string ⟨o.toArray⟩, .string ⟨s.toArray⟩] 9)) (.cells #[.slice none 0 0, .slice none 0 0] 28)
  rw [hsz] at B5
  exact ⟨⟨B5, World.ownsRow_nil _ _ 29 1, World.ownsRow_nil _ _ 42 1, by omega, by simp⟩, fun r hr => (by cases hr), List.Pairwise.nil, List.Pairwise.nil, rfl, (Y1.block _ (lt_of_block B4)).trans B4, al (al (Below.refl _ _) _) _⟩
end
set_option maxRecDepth 100000 in
set_option maxHeartbeats 8000000 in
theorem globParses_any (s o : By) (w : World) (hs : s.length ≤ 4294967296) (ho : o.length ≤ 4294967296) :
    Calls Try.prog 3 #[.string ⟨s.toArray⟩, .string ⟨o.toArray⟩] w fun e w' => e = .returned (.bool true) ∧ Below w.heap.size w w' := by
  go_enter Try.func3, Try.ntmps3
  go_wp2_with (fail)
  refine (known_any w).mono ?_
  rintro e w1 ⟨rfl, x1⟩
  have X1 := hide x1
  have S0 := hide (PsS.start w1 s o)
  have hsz : (w1.alloc (.cells #[.string ⟨s.toArray⟩, .string ⟨o.toArray⟩, .string ⟨s.toArray⟩] 9)).heap.size = w1.heap.size + 1 := by simp
  clear x1
  go_wp2
  go_loopg [8] 4 (fun g x wr => ∃ (i : Nat) (Rs : List PR) (lv sv : Value), i ≤ 3 ∧ x = .int .i64 i ∧ Hid (PsS s o w1 Rs lv sv i wr) ∧ 3 - i < g)
  case atStart => exact ⟨0, [], _, _, by omega, rfl, S0, by omega⟩
  case round =>
    obtain ⟨i, Rs, lv, sv, hi, rfl, S, hg⟩ := hrel
    have HG := hide hg
    clear S0 hg
    by_cases h3 : i < 3
    · have h3' : (i : Int) < 3 := by omega
      obtain ⟨x, hx⟩ : ∃ x, [s, o, s][i]? = some x := ⟨_, List.getElem?_eq_getElem (by simpa using h3)⟩
      have hxl : x.length ≤ 4294967296 := by
        have := List.mem_of_getElem? hx
        simp only [List.mem_cons, List.not_mem_nil, or_false] at this
        rcases this with rfl | rfl | rfl
        · exact hs
        · exact ho
        · exact hs
      have HC : Hid (∀ W : World, PsS s o w1 Rs lv sv i W → W.cell? ⟨w1.heap.size, i, none⟩ = some (.string ⟨x.toArray⟩)) := fun W h => by
        rw [cell_of_row _ _ _ _ _ _ h.ask]
        match i, h3, hx with
        | 0, _, hx => simp at hx; subst hx; rfl
        | 1, _, hx => simp at hx; subst hx; rfl
        | 2, _, hx => simp at hx; subst hx; rfl
      have c0 := HC.out wr S.out
      have HX := hide hx
      clear hx
      go_wp2_with (fail)
      refine (refParse_any x wr hxl).mono ?_
      rintro e w4 ⟨h4, x4⟩
      obtain ⟨v4, E, rfl, o4, hE⟩ := h4.uni
      have c4 := HC.out w4 (S.out.below x4)
      have X4 := hide x4
      have HE := hide hE
      obtain ⟨a4, k4, rfl, _, at4⟩ := o4.at
      have A4 := hide at4
      clear h4 x4 hE o4 at4 c0
      go_wp2_with (fail)
      refine (parse_any x w4 hxl).mono ?_
      rintro e w5 ⟨h5, x5⟩
      obtain ⟨v5, D, rfl, o5, hD⟩ := h5.uni
      have X5 := hide x5
      obtain ⟨a5, k5, rfl, _, at5⟩ := o5.at
      have HO5 := hide o5
      have HD := hide hD
      have hLD := res_len hD
      have H6 := hide (same_any a5 a4 k5 k4 D E w5 (by omega) (fun d hd => by have := hLD.2 d hd; omega) (by rw [hD, HE.out]) at5 (A4.out.below x5))
      clear h5 x5 hD o5 at5 c4 A4
      go_wp2_with (fail)
      refine H6.out.mono ?_
      rintro e w6 ⟨rfl, x6⟩
      have X6 := hide x6
      have S6 := hide (((S.out.below X4.out).below X5.out).below x6)
      have hsz6 := S6.out.bks.sz
      have hx1 := S.out.bks.sz
      have hx4 := X4.out.size
      have HT := hide (takes_any w6 (w1.heap.size + 2) (w1.heap.size + 1) (Rs.map ldr) ((flat Rs).map sld) lv sv (.slice a5 D.length k5) D S6.out.bks ((HO5.out.mono (by omega)).below x6) (by have := S.out.lens.1; rw [List.length_map]; omega) (by have := S.out.lens.2; rw [List.length_map]; omega) hLD.1)
      have hc1 : (cd1 x != cd1 x) = false := by simp
      have hc2 : (cd2 x != cd2 x) = false := by simp
      clear x6 H6 hsz6 hx1 hx4 hLD
      go_wp2_with (fail)
      refine HT.out.mono ?_
      rintro e w7 ⟨rfl, lv', sv', h7⟩
      have S7 := hide (S.out.next h3 HX.out HD.out X4.out X5.out X6.out HO5.out h7)
      clear h7 HT S6
      go_wp2
      go_roundg (3 - (i + 1) + 1)
      case measure => have := HG.out; omega
      case rel => exact ⟨i + 1, _, lv', sv', by omega, by first | rfl | go_num | (congr 1; omega), S7, by omega⟩
    · have h3' : ¬ (i : Int) < 3 := by omega
      obtain rfl : i = 3 := by omega
      have hcon := S.out.con
      obtain ⟨r0, r1, r2, rfl⟩ := three_of Rs (by have := congrArg List.length hcon; simpa using this)
      have hr0 : r0.2.map PD.p = res s := by simp at hcon; exact hcon.1
      have hLD := res_len hr0
      have H8 := hide (refParse_any s wr hs)
      clear h3'
      go_wp2_with (fail)
      refine H8.out.mono ?_
      rintro e w8 ⟨h8, x8⟩
      obtain ⟨v8, E, rfl, o8, hE⟩ := h8.uni
      have S8 := hide (S.out.below x8)
      obtain ⟨a8, k8, rfl, _, at8⟩ := o8.at
      obtain ⟨a0, k0, hv0, _, at0⟩ := (S8.out.own r0 (by simp)).at
      obtain ⟨la, lc, hlv, hlp⟩ := own_shape S8.out.bks.rl
      subst hlv
      obtain ⟨lg, rfl⟩ := hlp (by simp)
      obtain ⟨sa, sc, hsv, _⟩ := own_shape S8.out.bks.rs
      subst hsv
      have c0 := S8.out.bks.c0
      have c9 := own_cell1 S8.out.bks.rl rfl (i := 0) (by simp) rfl
      rw [show ([r0, r1, r2].map ldr)[0].v = r0.1 from rfl, hv0] at c9
      simp only [List.length_map, List.length_cons, List.length_nil] at c0
      have H9 := hide (same_any a0 a8 k0 k8 r0.2 E w8 (by omega) (fun d hd => by have := hLD.2 d hd; omega) (by rw [hr0, hE]) at0 at8)
      have HL := hide (fun (w9 : World) (x : Below w8.heap.size w8 w9) => (S8.out.below x).lsL)
      have HS := hide (fun (w9 : World) (x : Below w8.heap.size w8 w9) => (S8.out.below x).lsS)
      have HK := hide (fun (w9 : World) (x : Below w8.heap.size w8 w9) => (S8.out.below x).bks)
      have hflen := S8.out.lens.2
      have HNL : Hid (∀ i (h : i < ([r0, r1, r2].map ldr).length), (([r0, r1, r2].map ldr)[i]).n ≤ 4294967296) := fun i h => by
        rw [List.length_map] at h
        obtain ⟨y, hy⟩ := S8.out.mem (List.getElem_mem h)
        rw [List.getElem_map]
        have := (res_len hy).1
        unfold ldr
        simp only
        omega
      have HNS : Hid (∀ i (h : i < ((flat [r0, r1, r2]).map sld).length), (((flat [r0, r1, r2]).map sld)[i]).n ≤ 4294967296) := fun i h => by
        rw [List.length_map] at h
        obtain ⟨r, hr, hd⟩ := List.mem_flatMap.1 (List.getElem_mem h)
        obtain ⟨y, hy⟩ := S8.out.mem hr
        rw [List.getElem_map]
        exact (res_len hy).2 _ hd
      have XW := hide (bt X1.out S8.out.bel (Nat.le_refl _))
      have hw1 := X1.out.size
      clear h8 x8 o8 at8 at0 hv0 hcon hr0 hE hLD
      go_wp2_with (fail)
      refine H9.out.mono ?_
      rintro e w9 ⟨rfl, x9⟩
      have HA := hide (apart_any w9 (w1.heap.size + 2) (w1.heap.size + 1) (some ⟨lg, 0, none⟩) sa lc sc _ _ _ _ (HL.out w9 x9) (HS.out w9 x9) (HK.out w9 x9).blk (by omega) (HK.out w9 x9).sz (by simp) (by rw [List.length_map]; omega) HNL.out HNS.out)
      have XF := hide (bt XW.out x9 (Nat.le_refl _))
      clear x9 c0 c9 H9 HL HS HK
      go_wp2_with (fail)
      refine HA.out.mono ?_
      rintro e w10 ⟨rfl, x10⟩
      have XG := hide (XF.out.trans (x10.mono (by omega)))
      clear x10 HA
      go_wp2
      go_ret
      exact ⟨rfl, XG.out⟩
end Go.Proofs.Ytaiijdnfimclbaa
