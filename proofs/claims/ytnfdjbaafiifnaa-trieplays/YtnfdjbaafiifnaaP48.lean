/-
  A step of the script of whatever kind; a script in memory; the two sides, the book beside them. Condition: lists that a process can hold, in memory below the tries'.
-/
import Derived.Test.YtnfdjbaafiifnaaP47
namespace Go.Proofs.Ytnfdjbaafiifnaa
open Go.RowKit Go.Lib

/-- A step, as it lies in memory. -/
structure OpZ where
  kind : Int
  on : Int
  n : Int
  a : Int
  k : Int
  la : Option Addr
  L : List Int
  lc : Nat
  ra : Option Addr
  R : List RZ
  rc : Nat
def opV (o : OpZ) : Value := .agg #[.int .i64 o.kind, .int .i64 o.on, .int .i64 o.n, .int .i64 o.a, .int .i64 o.k, .slice o.la o.L.length o.lc, .slice o.ra o.R.length o.rc]
theorem step_any {w : World} {base xb tb rb bb m : Nat} {T : Tr} (o : OpZ) (h : SdAt w xb tb rb T) (hb : Bk w base bb m) (hm : m ≤ 4294967296) (hn : Fit o.n) (hL : o.L.length ≤ 4294967296) (hR : o.R.length ≤ 4294967296) (hz : ZAt w o.la o.L) (hr : RwAt w o.ra o.R) (hne : ∀ b off, o.la = some ⟨b, off, none⟩ → o.L ≠ [] → b ≠ tb ∧ b ≠ rb) :
    Calls Try.prog 12 #[.pointer (some ⟨xb, 0, none⟩), opV o, .pointer (some ⟨bb, 0, none⟩)] w fun e w' => e = .returned (.bool true) ∧ StP w base xb tb rb bb (m + 2) w' := by
  obtain ⟨kind, on, n, a, k, la, L, lc, ra, R, rc⟩ := o
  have key : ∀ {e w'}, (e = Ending.returned (.bool true) ∧ StP w base xb tb rb bb m w') → e = .returned (.bool true) ∧ StP w base xb tb rb bb (m + 2) w' := fun h => ⟨h.1, h.2.mono (by omega)⟩
  unfold opV
  by_cases h1 : kind = 1
  · subst h1; exact (stepPut on n a k la ra _ lc _ rc h hb).mono fun e w' => key
  by_cases h2 : kind = 2
  · subst h2; exact (stepFind on n a k la ra _ lc _ rc h hb).mono fun e w' => key
  by_cases h3 : kind = 3
  · subst h3; exact (stepMap on n a k la ra _ lc _ rc h hb L rfl hL hz hne).mono fun e w' => key
  by_cases h4 : kind = 4
  · subst h4; exact stepRows on n a k la ra _ lc _ rc h hb hm
  by_cases h5 : kind = 5
  · subst h5; exact (stepNew on n a k la ra _ lc _ rc h hb).mono fun e w' => key
  by_cases h6 : kind = 6
  · subst h6; exact (stepMake on n a k la ra _ lc _ rc h hb R rfl hR hr).mono fun e w' => key
  by_cases h7 : kind = 7
  · subst h7; exact (stepEach on n a k la ra _ lc _ rc h hb hn).mono fun e w' => key
  exact (stepNone kind on n a k la ra _ lc _ rc h hb ⟨h1, h2, h3, h4, h5, h6, h7⟩).mono fun e w' => key
/-- A script in memory. -/
def OpAt (w : World) (so : Option Addr) (S : List OpZ) : Prop := S = [] ∨ ∃ b off, so = some ⟨b, off, none⟩ ∧ b < w.heap.size ∧ ∀ i (h : i < S.length), (w.cell? ⟨b, off + i * 7, none⟩ = some (.int .i64 S[i].kind) ∧ w.cell? ⟨b, off + i * 7 + 1, none⟩ = some (.int .i64 S[i].on) ∧ w.cell? ⟨b, off + i * 7 + 2, none⟩ = some (.int .i64 S[i].n) ∧ w.cell? ⟨b, off + i * 7 + 3, none⟩ = some (.int .i64 S[i].a) ∧ w.cell? ⟨b, off + i * 7 + 4, none⟩ = some (.int .i64 S[i].k) ∧ w.cell? ⟨b, off + i * 7 + 5, none⟩ = some (.slice S[i].la S[i].L.length S[i].lc) ∧ w.cell? ⟨b, off + i * 7 + 6, none⟩ = some (.slice S[i].ra S[i].R.length S[i].rc)) ∧ ZAt w S[i].la S[i].L ∧ RwAt w S[i].ra S[i].R ∧ Fit S[i].on ∧ Fit S[i].n
theorem OpAt.below {w w' : World} {so : Option Addr} {S : List OpZ} (h : OpAt w so S) (x : Below w.heap.size w w') : OpAt w' so S := by
  rcases h with h | ⟨b, off, e, hlt, h⟩
  · exact .inl h
  · refine .inr ⟨b, off, e, Nat.lt_of_lt_of_le hlt x.size, fun i hi => ?_⟩
    obtain ⟨⟨c0, c1, c2, c3, c4, c5, c6⟩, z, r, f⟩ := h i hi
    have t : ∀ j, w'.cell? ⟨b, j, none⟩ = w.cell? ⟨b, j, none⟩ := fun j => x.cell (p := ⟨b, j, none⟩) hlt
    exact ⟨⟨(t _).trans c0, (t _).trans c1, (t _).trans c2, (t _).trans c3, (t _).trans c4, (t _).trans c5, (t _).trans c6⟩, z.below x, r.below x, f⟩
/-- A side. -/
structure Sd where
  xb : Nat
  tb : Nat
  rb : Nat
  T : Tr
structure Sides (w : World) (base : Nat) (l : List Sd) : Prop where
  each : ∀ j (h : j < l.length), SdAt w l[j].xb l[j].tb l[j].rb l[j].T ∧ base ≤ l[j].xb ∧ base ≤ l[j].tb ∧ base ≤ l[j].rb
  apart : ∀ i j (hi : i < l.length) (hj : j < l.length), i ≠ j → l[i].xb ≠ l[j].xb ∧ l[i].tb ≠ l[j].tb ∧ l[i].rb ≠ l[j].rb
theorem Sides.below {w w' : World} {base : Nat} {l : List Sd} (h : Sides w base l) (x : Below w.heap.size w w') : Sides w' base l :=
  ⟨fun j hj => ⟨(h.each j hj).1.below x, (h.each j hj).2⟩, h.apart⟩
theorem Sides.bk {w w' : World} {base : Nat} {l : List Sd} (h : Sides w base l) (x : BkK base w w') : Sides w' base l :=
  ⟨fun j hj => ⟨(h.each j hj).1.bk x, (h.each j hj).2⟩, h.apart⟩
theorem Sides.nil (w : World) (base : Nat) : Sides w base [] := ⟨fun j h => by simp at h, fun i j h => by simp at h⟩
theorem Sides.push {w : World} {base : Nat} {l : List Sd} (h : Sides w base l) {w0 : World} (h0 : Sides w0 base l) (hm : base ≤ w0.heap.size) (s : Sd) (hs : SdAt w s.xb s.tb s.rb s.T) (h1 : w0.heap.size ≤ s.xb) (h2 : w0.heap.size ≤ s.tb) (h3 : w0.heap.size ≤ s.rb) : Sides w base (l ++ [s]) := by
  refine ⟨fun j hj => ?_, fun i j hi hj hne => ?_⟩
  · by_cases hja : j < l.length
    · rw [List.getElem_append_left hja]; exact h.each j hja
    · have hje : j = l.length := by rw [List.length_append] at hj; simp at hj; omega
      subst hje
      rw [List.getElem_append_right (Nat.le_refl _)]
      simp only [Nat.sub_self, List.getElem_cons_zero]
      exact ⟨hs, by omega, by omega, by omega⟩
  · rw [List.length_append, List.length_singleton] at hi hj
    by_cases hia : i < l.length
    · by_cases hja : j < l.length
      · rw [List.getElem_append_left hia, List.getElem_append_left hja]; exact h.apart i j hia hja hne
      · have hje : j = l.length := by omega
        subst hje
        rw [List.getElem_append_left hia, List.getElem_append_right (Nat.le_refl _)]
        simp only [Nat.sub_self, List.getElem_cons_zero]
        obtain ⟨a, b, c⟩ := (h0.each i hia).1.lt
        exact ⟨by omega, by omega, by omega⟩
    · have hie : i = l.length := by omega
      have hja : j < l.length := by omega
      subst hie
      rw [List.getElem_append_left hja, List.getElem_append_right (Nat.le_refl _)]
      simp only [Nat.sub_self, List.getElem_cons_zero]
      obtain ⟨a, b, c⟩ := (h0.each j hja).1.lt
      exact ⟨by omega, by omega, by omega⟩
theorem Sides.step {w w' : World} {base bb m : Nat} {l : List Sd} (h : Sides w base l) {k : Nat} (hk : k < l.length) (hw : base ≤ w.heap.size) (hs : StP w base l[k].xb l[k].tb l[k].rb bb m w') : ∃ s : Sd, s.xb = l[k].xb ∧ Sides w' base (l.set k s) := by
  obtain ⟨⟨tb', rb', T', g1, g2, g3⟩, _, hkp⟩ := hs
  obtain ⟨hSk, b1, b2, b3⟩ := h.each k hk
  obtain ⟨rk, hrk⟩ := hSk.tr.blk4
  obtain ⟨vk, hvk⟩ := hSk.dt.blk
  have hxk := hSk.blk
  have oth : ∀ j (hj : j < l.length), j ≠ k → SdAt w' l[j].xb l[j].tb l[j].rb l[j].T := fun j hj hne => by
    have hSj := (h.each j hj).1
    obtain ⟨rj, hrj⟩ := hSj.tr.blk4
    obtain ⟨vj, hvj⟩ := hSj.dt.blk
    have hxj := hSj.blk
    obtain ⟨a1, a2, a3⟩ := h.apart k j hk hj (fun e => hne e.symm)
    have ne : ∀ {i i' : Nat} {cs cs' : Array Value} {t t' : TypeId} {f f' : Nat × Nat}, w.heap[i]? = some (.cells cs t f) → w.heap[i']? = some (.cells cs' t' f') → t ≠ t' → i ≠ i' := fun h1 h2 h3 e => by subst e; rw [h1] at h2; simp at h2; exact h3 h2.2.1
    refine hSj.other hkp (fun i hf => ?_)
    rcases hf with rfl | rfl | rfl | ⟨_, cs, t, f, e1, e2⟩
    · exact ⟨a1, ne hxk hrj (by decide), ne hxk hvj (by decide), _, _, _, hxk, by decide, by decide⟩
    · exact ⟨ne hrk hxj (by decide), a2, ne hrk hvj (by decide), _, _, _, hrk, by decide, by decide⟩
    · exact ⟨ne hvk hxj (by decide), ne hvk hrj (by decide), a3, _, _, _, hvk, by decide, by decide⟩
    · refine ⟨ne e1 hxj ?_, ne e1 hrj ?_, ne e1 hvj ?_, cs, t, f, e1, ?_, ?_⟩ <;> (rcases e2 with rfl | rfl | rfl <;> decide)
  have c2 : base ≤ tb' := by rcases g2 with e | e <;> omega
  have c3 : base ≤ rb' := by rcases g3 with e | e <;> omega
  have ap : ∀ j (hj : j < l.length), j ≠ k → l[k].xb ≠ l[j].xb ∧ tb' ≠ l[j].tb ∧ rb' ≠ l[j].rb := fun j hj hne => by
    obtain ⟨a1, a2, a3⟩ := h.apart k j hk hj (fun e => hne e.symm)
    obtain ⟨q1, q2, q3⟩ := (h.each j hj).1.lt
    refine ⟨a1, ?_, ?_⟩
    · rcases g2 with e | e
      · rw [e]; exact a2
      · omega
    · rcases g3 with e | e
      · rw [e]; exact a3
      · omega
  refine ⟨⟨l[k].xb, tb', rb', T'⟩, rfl, fun j hj => ?_, fun i j hi hj hne => ?_⟩
  · have hj' : j < l.length := by simpa using hj
    by_cases hjk : j = k
    · subst hjk
      rw [List.getElem_set_self]
      exact ⟨g1, b1, c2, c3⟩
    · rw [List.getElem_set_ne (fun e => hjk e.symm)]
      exact ⟨oth j hj' hjk, (h.each j hj').2⟩
  · have hi' : i < l.length := by simpa using hi
    have hj' : j < l.length := by simpa using hj
    by_cases hik : i = k
    · subst hik
      rw [List.getElem_set_self, List.getElem_set_ne hne]
      exact ap j hj' (fun e => hne e.symm)
    · by_cases hjk : j = k
      · subst hjk
        rw [List.getElem_set_self, List.getElem_set_ne (fun e => hik e.symm)]
        obtain ⟨q1, q2, q3⟩ := ap i hi' hik
        exact ⟨fun e => q1 e.symm, fun e => q2 e.symm, fun e => q3 e.symm⟩
      · rw [List.getElem_set_ne (fun e => hik e.symm), List.getElem_set_ne (fun e => hjk e.symm)]
        exact h.apart i j hi' hj' hne
def sdP (s : Sd) : Value := .pointer (some ⟨s.xb, 0, none⟩)
/-- All that a script's steps keep. -/
structure Pl (w0 : World) (bb : Nat) (v : Value) (l : List Sd) (m : Nat) (w : World) : Prop where
  sides : Sides w w0.heap.size l
  row : w.ownsRow w0.heap.size 37 1 v l.length (l.map sdP)
  bk : Bk w w0.heap.size bb m
  below : Below w0.heap.size w0 w
theorem Pl.next {w0 w w' : World} {bb : Nat} {v : Value} {l : List Sd} {m : Nat} (h : Pl w0 bb v l m w) (x : Below w.heap.size w w') : Pl w0 bb v l m w' :=
  ⟨h.sides.below x, own_below h.row x, h.bk.below x, h.below.trans (x.mono h.below.size)⟩
theorem own_types {w w' : World} {F : Nat → Prop} {base size n : Nat} {e : TypeId} {v : Value} {xs : List Value} (h : w.ownsRow base e size v n xs) (hk : Kept F w w') (hF : ∀ k, F k → ∃ cs t f, w.heap[k]? = some (.cells cs t f) ∧ t ≠ e) : w'.ownsRow base e size v n xs :=
  own_kept h hk (fun k h3 h4 => by
    obtain ⟨cs, t, f, h5, h6⟩ := hF k h4
    obtain ⟨cs', h7⟩ := own_ty h k h3
    rw [h7] at h5
    simp at h5
    exact h6 h5.2.1.symm)
theorem Pl.still {w0 w w' : World} {bb : Nat} {v : Value} {l : List Sd} {m : Nat} (h : Pl w0 bb v l m w) (hb : Bk w' w0.heap.size bb m) (hk : BkK w0.heap.size w w') : Pl w0 bb v l m w' :=
  ⟨h.sides.bk hk, own_types h.row hk (fun k ⟨_, cs, t, f, h1, h2⟩ => ⟨cs, t, f, h1, by rcases h2 with rfl | rfl | rfl <;> decide⟩), hb, h.below.trans (hk.below h.below.size)⟩
theorem Pl.step {w0 w w' : World} {bb : Nat} {v : Value} {l : List Sd} {m m' : Nat} (h : Pl w0 bb v l m w) {k : Nat} (hk : k < l.length) (hs : StP w w0.heap.size l[k].xb l[k].tb l[k].rb bb m' w') : ∃ l', l'.length = l.length ∧ Pl w0 bb v l' m' w' := by
  obtain ⟨s, e, h1⟩ := h.sides.step hk h.below.size hs
  obtain ⟨hSk, b1, b2, b3⟩ := h.sides.each k hk
  obtain ⟨rk, hrk⟩ := hSk.tr.blk4
  obtain ⟨vk, hvk⟩ := hSk.dt.blk
  have em : (l.set k s).map sdP = l.map sdP := by
    apply List.ext_getElem (by simp)
    intro i h1 h2
    simp only [List.getElem_map]
    by_cases hik : k = i
    · subst hik
      rw [List.getElem_set_self]
      unfold sdP
      rw [e]
    · rw [List.getElem_set_ne hik]
  refine ⟨l.set k s, by simp, h1, ?_, hs.bk, h.below.trans (hs.kept.below h.below.size (fun j hj => ?_))⟩
  · rw [em, List.length_set]
    refine own_types h.row hs.kept (fun j hj => ?_)
    rcases hj with rfl | rfl | rfl | ⟨_, cs, t, f, e1, e2⟩
    · exact ⟨_, 39, _, hSk.blk, by decide⟩
    · exact ⟨_, 73, _, hrk, by decide⟩
    · exact ⟨_, 78, _, hvk, by decide⟩
    · exact ⟨cs, t, f, e1, by rcases e2 with rfl | rfl | rfl <;> decide⟩
  · rcases hj with rfl | rfl | rfl | hj
    · exact b1
    · exact b2
    · exact b3
    · exact hj.1
end Go.Proofs.Ytnfdjbaafiifnaa
