/-
  Diagrams in their own order, and led back. In pure words; of no program: no condition.
-/
import Derived.Test.YtnddhkhmbjeefaaP23
import Derived.Test.YtnddhkhmbjeefaaP27
import Derived.Test.YtnddhkhmbjeefaaP24
namespace Go.Proofs.Ytnddhkhmbjeefaa
open Go.RowKit

section
variable {S : List Int} {M : Int} {N : List Nd} {F : List Phi} {R : List Int} {L : List Lay} {o : List Int} {n : Nat}
theorem lows_get {i : Nat} (h : i < n) : (lows n)[i]? = some (i : Int) := by simp [lows, h]
theorem lows_nodup : (lows n).Nodup := by
  refine List.pairwise_iff_getElem.2 (fun i j hi hj hij e => ?_)
  simp [lows] at e
  omega
theorem lows_ord (S : List Int) : IsOrd S (lows S.length) := ⟨lows_nodup, by simp [lows], fun l hl => lows_mem.1 hl⟩
theorem posO_lows {j : Nat} (h : j < n) : posO (lows n) (j : Int) = j := posO_nodup lows_nodup (lows_get h)
theorem ledS_lows : ledS S (lows S.length) = S := by
  apply List.ext_getElem
  · simp [ledS, lows]
  · intro i h1 h2
    simp [ledS, lows, List.getD_eq_getElem?_getD, List.getElem?_eq_getElem h2]
/-- What refs say hangs on the levels that there are. -/
theorem say_eq (h : Ok S M N) {f : Int} (hf : hasR N f) {p p' : Nat → Nat} (hp : Pnt S p) (hp' : Pnt S p') (e : ∀ j, j < S.length → p j = p' j) : sayR N p f = sayR N p' f := say_hang h f.toNat f (Nat.le_refl _) hf 0 (h.lvl_le hf).1 p p' hp hp' (fun j _ hj => e j hj)
theorem led_low (h : Ok S M N) {f : Int} (hf : hasR N f) : Rep (ledS S (lows S.length)) N (ledF (lows S.length) (fun p => sayR N p f)) f := by
  rw [ledS_lows]
  refine ⟨hf, fun p hp => ?_⟩
  have hp2 : Pnt (ledS S (lows S.length)) p := by rw [ledS_lows]; exact hp
  exact say_eq h hf hp (led_pnt (lows_ord S) hp2) (fun j hj => by
    show p j = p (posO (lows S.length) (j : Int))
    rw [posO_lows hj])
/-- In its own order there is room. -/
theorem low_room (h : Ok S M N) {rs : List Int} (hrs : ∀ f ∈ rs, hasR N f) (G : GD S (rs.map fun f p => sayR N p f) R L) {M2 : Int} (h0 : M ≤ M2) (h8 : M2 ≤ 8192) : (foldF S M2 (rs.map fun f p => sayR N p f) (lows S.length)).2.1 = 0 := by
  obtain ⟨L', G', e⟩ := order_ex h.sz (lows_ord S) G
  have hm0 := h.m0
  have hO : Ok (ledS S (L'.map (·.1))) M N := by rw [e, ledS_lows]; exact h
  have hle := all_le h.sz G' hO (fun φ hφ => by
    obtain ⟨f, hf, rfl⟩ := List.mem_map.1 hφ
    rw [e]
    exact ⟨f, led_low h (hrs f hf)⟩)
  have hfew := h.few
  have := fold_nodes h.sz G' (M := M2) (by omega) h8
  rw [e] at this
  rcases this with ⟨h1, _⟩ | ⟨_, h2⟩
  · exact h1
  · omega
/-- An order turned round. -/
structure BackO (o b : List Int) : Prop where
  len : b.length = o.length
  at' : ∀ i (h : i < o.length), b[(o[i]).toNat]? = some (i : Int)
theorem BackO.pos {b : List Int} (ho : IsOrd S o) (hb : BackO o b) {j : Nat} (hj : j < S.length) : b[j]? = some (posO o (j : Int) : Int) := by
  have hm := ho.mem hj
  have h1 := posO_lt hm
  have h2 := posO_get hm
  rw [List.getElem?_eq_getElem h1] at h2
  have := hb.at' _ h1
  rw [Option.some.inj h2, Int.toNat_natCast] at this
  exact this
theorem BackO.ord {b : List Int} (ho : IsOrd S o) (hb : BackO o b) : IsOrd (ledS S o) b := by
  have hl : b.length = S.length := hb.len.trans ho.len
  have hg : ∀ j (h : j < b.length), b[j] = (posO o (j : Int) : Int) := fun j h => by
    have := hb.pos ho (j := j) (by omega)
    rw [List.getElem?_eq_getElem h] at this
    exact Option.some.inj this
  refine ⟨List.pairwise_iff_getElem.2 (fun i j hi hj hij e => ?_), by rw [ledS_length ho]; exact hl, fun l hm => ?_⟩
  · rw [hg i hi, hg j hj] at e
    have hmi := posO_get (ho.mem (j := i) (by omega))
    have hmj := posO_get (ho.mem (j := j) (by omega))
    have e' : posO o (i : Int) = posO o (j : Int) := by omega
    rw [e', hmj] at hmi
    have := Option.some.inj hmi
    omega
  · obtain ⟨j, hj, rfl⟩ := List.getElem_of_mem hm
    rw [hg j hj, ledS_length ho]
    have h1 := posO_lt (ho.mem (j := j) (by omega))
    have h2 := ho.len
    omega
theorem BackO.sizes {b : List Int} (ho : IsOrd S o) (hb : BackO o b) : ledS (ledS S o) b = S := by
  have hl : b.length = S.length := hb.len.trans ho.len
  apply List.ext_getElem
  · simp [ledS, hl]
  · intro j h1 h2
    have hj : j < b.length := by rw [hl]; exact h2
    have e := hb.pos ho h2
    rw [List.getElem?_eq_getElem hj] at e
    have e1 := Option.some.inj e
    have hm := posO_get (ho.mem (j := j) h2)
    simp only [ledS, List.getElem_map, e1]
    show ((o.map (szL S)).getD ((posO o (j : Int) : Int)).toNat 0) = S[j]
    rw [Int.toNat_natCast, List.getD_eq_getElem?_getD, List.getElem?_map, hm]
    simp [szL, List.getD_eq_getElem?_getD, List.getElem?_eq_getElem h2]
theorem BackO.led {b : List Int} (ho : IsOrd S o) (hb : BackO o b) {p : Nat → Nat} {j : Nat} (hj : j < S.length) : ledP o (ledP b p) j = p j := by
  show p (posO b ((posO o (j : Int) : Nat) : Int)) = p j
  rw [posO_nodup (hb.ord ho).nod (hb.pos ho hj)]
/-- What is led back is what is made in the own order. -/
theorem led_turn (h : Ok S M N) (ho : IsOrd S o) {b : List Int} (hb : BackO o b) {rs : List Int} (hrs : ∀ f ∈ rs, hasR N f) (G : GD S (rs.map fun f p => sayR N p f) R L) {M1 M2 : Int} (h0 : 0 ≤ M1) (h8 : M1 ≤ 8192) (h02 : 0 ≤ M2) (h82 : M2 ≤ 8192) (he : (foldF S M1 (rs.map fun f p => sayR N p f) o).2.1 = 0) :
    foldF (ledS S o) M2 ((foldF S M1 (rs.map fun f p => sayR N p f) o).1.map fun f p => sayR (foldF S M1 (rs.map fun f p => sayR N p f) o).2.2 p f) b = foldF S M2 (rs.map fun f p => sayR N p f) (lows S.length) := by
  obtain ⟨L', G', e⟩ := order_ex h.sz ho G
  have oo := fold_out h.sz G' (M := M1) h0 h8
  rw [e] at oo
  obtain ⟨_, k1, k2⟩ := oo.res.resolve_right (fun hh => by have := hh.1; omega)
  have hNo := oo.ok
  generalize foldF S M1 (rs.map fun f p => sayR N p f) o = z at *
  rw [List.length_map, List.length_map] at k1
  have hB := hb.ord ho
  have hOn : Ok S M2 [] := Ok.nil h.sz h02 h82
  unfold foldF
  rw [hb.sizes ho, ledS_lows]
  refine kids_congr _ _ [] hOn (by simp [k1]) (fun i h1 h2 N' hN' => ?_)
  have hi : i < rs.length := by simpa [k1] using h1
  have hiz : i < z.1.length := by rw [k1]; exact hi
  simp only [List.getElem_map]
  have rep := (k2 i (by simpa using hi)).1
  simp only [List.getElem_map] at rep
  have hzi : z.1.getD i 0 = z.1[i] := by rw [List.getD_eq_getElem?_getD, List.getElem?_eq_getElem hiz]; rfl
  rw [hzi] at rep
  have hf := hrs _ (List.getElem_mem hi)
  have hal : Alike S (ledF b (fun p => sayR z.2.2 p z.1[i])) (ledF (lows S.length) (fun p => sayR N p rs[i])) := fun p hp => by
    have hp1 : Pnt (ledS (ledS S o) b) p := by rw [hb.sizes ho]; exact hp
    have hp2 := led_pnt hB hp1
    have hp3 := led_pnt ho hp2
    have hp4 : Pnt (ledS S (lows S.length)) p := by rw [ledS_lows]; exact hp
    have h3 := rep.2 _ hp2
    show sayR z.2.2 (ledP b p) z.1[i] = sayR N (ledP (lows S.length) p) rs[i]
    rw [h3]
    show sayR N (ledP o (ledP b p)) rs[i] = _
    exact say_eq h hf hp3 (led_pnt (lows_ord S) hp4) (fun j hj => by
      rw [hb.led ho hj]
      show p j = p (posO (lows S.length) (j : Int))
      rw [posO_lows hj])
  have hg : Hang S (ledF (lows S.length) (fun p => sayR N p rs[i])) 0 := by
    have := led_low h hf
    rw [ledS_lows] at this
    exact (say_hang h _ _ (Nat.le_refl _) hf 0 (h.lvl_le hf).1).alike this.2
  have hg' := hg.alike hal.symm
  exact ⟨ins_alike hN' hg' hal, (ins_out hN' (Nat.zero_le _) hg').ok⟩
/-- What a root says in another order. -/
theorem led_say (h : Ok S M N) (ho : IsOrd S o) {rs : List Int} (hrs : ∀ f ∈ rs, hasR N f) (G : GD S (rs.map fun f p => sayR N p f) R L) {M1 : Int} (h0 : 0 ≤ M1) (h8 : M1 ≤ 8192) (he : (foldF S M1 (rs.map fun f p => sayR N p f) o).2.1 = 0) {k : Nat} (hk : k < rs.length) {p p' : Nat → Nat} (hp : Pnt S p) (hp' : Pnt (ledS S o) p') (e : ∀ i (hi : i < o.length), p' i = p (o[i]).toNat) :
    (foldF S M1 (rs.map fun f p => sayR N p f) o).1.length = rs.length ∧ hasR (foldF S M1 (rs.map fun f p => sayR N p f) o).2.2 ((foldF S M1 (rs.map fun f p => sayR N p f) o).1.getD k 0) ∧ sayR (foldF S M1 (rs.map fun f p => sayR N p f) o).2.2 p' ((foldF S M1 (rs.map fun f p => sayR N p f) o).1.getD k 0) = sayR N p rs[k] := by
  obtain ⟨L', G', e'⟩ := order_ex h.sz ho G
  have oo := fold_out h.sz G' (M := M1) h0 h8
  rw [e'] at oo
  obtain ⟨_, k1, k2⟩ := oo.res.resolve_right (fun hh => by have := hh.1; omega)
  generalize foldF S M1 (rs.map fun f p => sayR N p f) o = z at *
  rw [List.length_map, List.length_map] at k1
  have rep := (k2 k (by simpa using hk)).1
  simp only [List.getElem_map] at rep
  refine ⟨k1, rep.1, (rep.2 p' hp').trans ?_⟩
  show sayR N (ledP o p') rs[k] = sayR N p rs[k]
  refine say_eq h (hrs _ (List.getElem_mem hk)) (led_pnt ho hp') hp (fun j hj => ?_)
  have hm := ho.mem hj
  have h1 := posO_lt hm
  have h2 := posO_get hm
  rw [List.getElem?_eq_getElem h1] at h2
  show p' (posO o (j : Int)) = p j
  rw [e _ h1, Option.some.inj h2, Int.toNat_natCast]
end
end Go.Proofs.Ytnddhkhmbjeefaa
