/-
  known by its contract. No condition.
-/
import Derived.Test.YtaafeflbanoncaaP11
import Derived.Test.YtaafeflbanoncaaP16
import Derived.Laws.EntriesVeiled
namespace Go.Proofs.Ytaafeflbanoncaa
open Go.RowKit Go.Lib Go.Maps

theorem zat_new (w : World) (L : List Int) : ZAt (w.alloc (.cells (zC L).toArray 3)) (some ⟨w.heap.size, 0, none⟩) L := by
  refine .inr ⟨w.heap.size, 0, rfl, by simp, fun i hi => ?_⟩
  rw [Nat.zero_add, cell_of_row _ _ i _ _ _ (heap_alloc_new w _), List.getElem?_toArray, zC_get L hi]
/-- Make, where its answer is known. -/
theorem CA.made {w : World} {a : Nat} {S : List Int} {M : Int} {N N' : List Nd} {m : Nat} {P : Nat → Prop} (h : CA w a S M N m P) {lv f er : Int} {A : List Int} (g c : Nat) (hk : MkP S M N lv A f er N') (hl : A.length ≤ 140737488351232) (hz : ZAt w (some ⟨g, 0, none⟩) A) (hm : m ≤ 1000) {w0 : World} (hb : Below w0.heap.size w0 w) (hp : ∀ k, P k → w0.heap.size ≤ k) :
    Calls Try.prog 56 #[.pointer (some ⟨a, 0, none⟩), .int .i64 lv, .slice (some ⟨g, 0, none⟩) A.length c] w fun e w' => e = .returned (.tuple #[.int .i64 f, .int .i64 er]) ∧ ∃ P', CA w' a S M N' (m + 1) P' ∧ Below w0.heap.size w0 w' ∧ ∀ k, P' k → w0.heap.size ≤ k := by
  refine (h.make lv _ c A hl hz (by omega)).mono ?_
  rintro e w' ⟨f2, er2, N2, rfl, h2, P', h3, h4, h5, _⟩
  obtain ⟨rfl, rfl, rfl⟩ := MkP.one h.ok.nod h2 hk
  exact ⟨rfl, P', h3, hb.trans (h4.below hb.size hp), fun k hk => (h5 k hk).elim (hp k) (Nat.le_trans hb.size)⟩
end Go.Proofs.Ytaafeflbanoncaa
/-
  newMemory, result, join by their contracts. No condition.
-/
namespace Go.Proofs.Ytaafeflbanoncaa
open Go.RowKit Go.Lib Go.Maps

section
variable {w : World} {c : Cf} {N : List Nd} {P G : Nat → Prop}
/-- A memory that was made. -/
structure NwM (w w' : World) (a mm rb kb : Nat) (kv : Value) : Prop where
  bel : Below w.heap.size w w'
  blk : w'.heap[mm]? = some (.cells #[.pointer (some ⟨a, 0, none⟩), kv, .map (some rb), .map (some kb)] 108 (0, 0))
  rbk : w'.heap[rb]? = some (.map #[] 0)
  kbk : w'.heap[kb]? = some (.map #[] 0)
  ne : rb ≠ kb
  m1 : w.heap.size ≤ mm
  m2 : w.heap.size ≤ rb
  m3 : w.heap.size ≤ kb
theorem three_new (w : World) (a : Nat) (kv : Value) : NwM w (((w.alloc (.map #[] 0)).alloc (.map #[] 0)).alloc (.cells #[.pointer (some ⟨a, 0, none⟩), kv, .map (some w.heap.size), .map (some (w.heap.size + 1))] 108)) a (w.heap.size + 1 + 1) w.heap.size (w.heap.size + 1) kv := by
  have y1 : Below w.heap.size w (w.alloc (.map #[] 0)) := al (Below.refl _ _) _
  have b1 : (w.alloc (.map #[] 0)).heap[w.heap.size]? = some (.map #[] 0) := heap_alloc_new w _
  have s1 : (w.alloc (.map #[] 0)).heap.size = w.heap.size + 1 := by simp
  generalize w.alloc (.map #[] 0) = w1 at *
  have y2 : Below w1.heap.size w1 (w1.alloc (.map #[] 0)) := al (Below.refl _ _) _
  have b2 : (w1.alloc (.map #[] 0)).heap[w1.heap.size]? = some (.map #[] 0) := heap_alloc_new w1 _
  have s2 : (w1.alloc (.map #[] 0)).heap.size = w1.heap.size + 1 := by simp
  generalize w1.alloc (.map #[] 0) = w2 at *
  have y3 : Below w2.heap.size w2 (w2.alloc (.cells #[.pointer (some ⟨a, 0, none⟩), kv, .map (some w.heap.size), .map (some (w.heap.size + 1))] 108)) := al (Below.refl _ _) _
  have b3 := heap_alloc_new w2 (.cells #[.pointer (some ⟨a, 0, none⟩), kv, .map (some w.heap.size), .map (some (w.heap.size + 1))] 108)
  generalize w2.alloc (.cells #[.pointer (some ⟨a, 0, none⟩), kv, .map (some w.heap.size), .map (some (w.heap.size + 1))] 108) = w3 at *
  rw [s1] at b2
  rw [s2, s1] at b3
  have y13 := bt y2 y3 (Nat.le_refl _)
  exact ⟨bt (bt y1 y2 (Nat.le_refl _)) y3 (Nat.le_refl _), b3, (y13.block _ (by omega)).trans b1, (y3.block _ (by omega)).trans b2, by omega, by omega, by omega, by omega⟩
set_option maxRecDepth 100000 in
theorem newMemory_any (a : Nat) (w : World) : Calls Try.prog 60 #[.pointer (some ⟨a, 0, none⟩)] w fun e w' => ∃ mm rb kb kv, e = .returned (.pointer (some ⟨mm, 0, none⟩)) ∧ NwM w w' a mm rb kb kv := by
  have H3 := hide (three_new w a)
  have hm1 : ∀ W : World, (Instr.makeMap 105 none).run Try.prog W = .ok (.map (some W.heap.size)) (W.alloc (.map #[] 0)) := fun W => rfl
  have hm2 : ∀ W : World, (Instr.makeMap 106 none).run Try.prog W = .ok (.map (some W.heap.size)) (W.alloc (.map #[] 0)) := fun W => rfl
  go_enter Try.func60, Try.ntmps60
  go_wp2
  go_ret
  have h4 := H3.out
  exact ⟨_, _, _, _, by simp, h4 _⟩
/-- The memory as an operation begins. -/
theorem MS.starts {w0 w : World} {N : List Nd} {P : Nat → Prop} {m : Nat} (h : CA w0 c.a c.S c.M N m P) (x : NwM w0 w c.a c.mm c.rb c.kb c.kv) (hx : ∀ y ∈ c.xs, w.heap[y.1]? = some y.2 ∧ ¬ P y.1 ∧ y.1 ≠ c.rb ∧ y.1 ≠ c.kb) : MS w c N P (fun _ => False) := by
  have hn : ∀ k, w0.heap.size ≤ k → ¬ P k := fun k hk hp => by have := h.plt hp; omega
  refine ⟨(h.below x.bel).tight, x.blk, hn _ x.m1, hn _ x.m2, hn _ x.m3, x.ne, fun _ h => h.elim, hx, ⟨.map [], ?_, fun kl hk => ?_⟩, ⟨.map [], ?_, fun kl hk => ?_⟩⟩
  · have := World.ownsMap_made w0 Try.prog 100 (plainElem (H := Unit) Try.prog 3)
    obtain ⟨es, cl, h1, h2, h3, h4⟩ := this
    rw [heap_alloc_new w0] at h1
    injection h1 with h1
    injection h1 with h1 h5
    subst h1 h5
    exact ⟨_, _, x.rbk, h2, by simp, h4⟩
  · simp [Maps.has_eq] at hk
  · have := World.ownsMap_made w0 Try.prog 3 slRd
    obtain ⟨es, cl, h1, h2, h3, h4⟩ := this
    rw [heap_alloc_new w0] at h1
    injection h1 with h1
    injection h1 with h1 h5
    subst h1 h5
    exact ⟨_, _, x.kbk, h2, by simp, h4⟩
  · simp [Maps.has_eq] at hk
/-- .. without more. -/
theorem MS.start {w0 w : World} {N : List Nd} {P : Nat → Prop} {m : Nat} (h : CA w0 c.a c.S c.M N m P) (x : NwM w0 w c.a c.mm c.rb c.kb c.kv) (hx : ∀ y ∈ c.xs, w0.heap[y.1]? = some y.2 ∧ ¬ P y.1) : MS w c N P (fun _ => False) :=
  MS.starts h x (fun y hy => ⟨(x.bel.block _ (lt_of_block2 (hx y hy).1)).trans (hx y hy).1, (hx y hy).2, fun e => by have := lt_of_block2 (hx y hy).1; have := x.m2; omega, fun e => by have := lt_of_block2 (hx y hy).1; have := x.m3; omega⟩)
/-- What an operation on an arena leaves: what is made of a function; nothing, where there is no room. -/
def OpL (a : Nat) (S : List Int) (M : Int) (N : List Nd) (P : Nat → Prop) (φ : (Nat → Nat) → Bool) (w : World) (e : Ending) (w' : World) : Prop :=
  ∃ r er N' P', e = .returned (.tuple #[.int .i64 r, .int .i64 er]) ∧ CA w' a S M N' 8192 P' ∧ Kept P w w' ∧ Gw w P P' ∧ Hang S φ 0 ∧ ((er = 0 ∧ (∃ T, N' = N ++ T) ∧ Rep S N' φ r ∧ ins S M N φ = (r, 0, N')) ∨ (er = 2 ∧ r = 0 ∧ N' = N ∧ ∃ N1, ins S M N φ = (0, 2, N1)))
def RsL (c : Cf) (N : List Nd) (P : Nat → Prop) (f g : Int) (w : World) (e : Ending) (w' : World) : Prop :=
  ∃ r er N' P', e = .returned (.tuple #[.int .i64 r, .int .i64 er]) ∧ CA w' c.a c.S c.M N' 8192 P' ∧ Kept (Fw c P) w w' ∧ Gw w P P' ∧ ((er = 0 ∧ (∃ T, N' = N ++ T) ∧ PtOk c.S N' c.op c.q f g r ∧ ins c.S c.M N (phi c N f g) = (r, 0, N')) ∨ (er = 2 ∧ r = 0 ∧ N' = N ∧ ∃ N1, ins c.S c.M N (phi c N f g) = (0, 2, N1)))
set_option maxRecDepth 100000 in
set_option maxHeartbeats 2000000 in
theorem result_any {cl : Nat} {caps : List Value} {f g : Int} (hc : KnC c cl caps) (h : MS w c N P G) (hf : hasR N f) (hg : hasR N g) (hz : c.Z → g = 0) :
    Calls Try.prog 64 #[.pointer (some ⟨c.mm, 0, none⟩), .agg #[.int .i64 f, .int .i64 g]] w fun e w' => RsL c N P f g w e w' := by
  have y1 : Below w.heap.size w (w.alloc (.cells #[.int .i64 f, .int .i64 g] 100)) := al (Below.refl _ _) _
  have nb : (w.alloc (.cells #[.int .i64 f, .int .i64 g] 100)).heap[w.heap.size]? = some (.cells #[.int .i64 f, .int .i64 g] 100 (0, 0)) := heap_alloc_new w _
  have H1 := hide (h.below y1)
  have h1 := h.ca.ok.lvl_le hf
  have h2 := h.ca.ok.lvl_le hg
  have HP := hide (put_any hc c.S.length _ N P G f g H1.out hf hg hz (by omega))
  have X1 := hide y1
  have HL := hide H1.out.ca.len
  have q0 := H1.out.cells.1
  have e0 : (w.alloc (.cells #[.int .i64 f, .int .i64 g] 100)).cell? ⟨w.heap.size, 0, none⟩ = some (.int .i64 f) := by rw [cell_of_row _ _ _ _ _ _ nb]; rfl
  have e1 : (w.alloc (.cells #[.int .i64 f, .int .i64 g] 100)).cell? ⟨w.heap.size, 1, none⟩ = some (.int .i64 g) := by rw [cell_of_row _ _ _ _ _ _ nb]; rfl
  clear h hf hg hz h1 h2 y1 nb hc
  go_enter Try.func64, Try.ntmps64
  go_upto_region 1 with fail
  generalize w.alloc (.cells #[.int .i64 f, .int .i64 g] 100) = w1 at *
  generalize hpb : w.heap.size = pb at *
  have HPB := hide hpb
  clear hpb
  go_upto_region 3 with (first
    | (go_at_call 20; refine HL.out.mono ?_; rintro e w2 ⟨rfl, hw2⟩; have hw3 := hw2.symm; clear hw2; subst hw3)
    | (go_at_call 79; refine HP.out.mono ?_; rintro e w2 ⟨r, er, N', P', G', rfl, m2, e2, k2, p2, g2, in2, ok2⟩; have IN2 := hide in2; have M2 := hide m2; have E2 := hide e2; have K2 := hide k2; have P2 := hide p2; have OK2 := hide ok2; clear m2 e2 k2 p2 g2 ok2 in2))
  clear HL HP q0 e0 e1
  have KW : Hid (Kept (Fw c P) w w2 ∧ Gw w P P') := ⟨(Kept.of_below (by rw [HPB.out]; exact X1.out)).trans K2.out, fun b hb => (P2.out b hb).imp id (Nat.le_trans X1.out.size)⟩
  rcases OK2.out with ⟨rfl, hok⟩ | ⟨rfl, rfl⟩
  · have FIN : Hid (RsL c N P f g w (.returned (.tuple #[.int .i64 r, .int .i64 0])) w2) := ⟨r, 0, N', P', rfl, M2.out.ca, KW.out.1, KW.out.2, .inl ⟨rfl, E2.out, hok, IN2.out⟩⟩
    clear hok OK2
    go_wp2
    go_ret2
    exact FIN.out
  · obtain ⟨T, hT⟩ := E2.out
    have HB := hide (M2.out.ca.back (N.length : Int))
    have q2 := M2.out.cells.1
    have HT := hide hT
    clear hT OK2
    go_wp2_with (go_at_call 36; refine HB.out.mono ?_; rintro e w3 (⟨b0, b1, rfl, b3, b4⟩ | ⟨b0, _, _⟩); rotate_left; (exfalso; exact b0 ⟨by omega, by rw [HT.out, List.length_append]; omega⟩); have B3 := hide b3; have B4 := hide b4; clear b0 b1 b3 b4)
    go_ret2
    have h5 := B3.out
    rw [Int.toNat_natCast, HT.out, List.take_left' rfl] at h5
    exact ⟨0, 2, N, P', rfl, h5, KW.out.1.trans_new B4.out (fun b hb h1 => .inl ((KW.out.2 b h1).elim id (fun h2 => by omega))), KW.out.2, .inr ⟨rfl, rfl, rfl, N', IN2.out⟩⟩
set_option maxRecDepth 100000 in
set_option maxHeartbeats 2000000 in
theorem join_ok {a : Nat} {S : List Int} {M : Int} {m : Nat} {f g : Int} {cl : Nat} {op : Bool → Bool → Bool} (hkn : ∀ c : Cf, c.kv = .func (.func cl) #[] #[] → c.op = op → c.q = (fun p => p) → c.Z = False → KnC c cl []) (h : CA w a S M N m P) (hf : hasR N f) (hg : hasR N g) :
    Calls Try.prog 57 #[.pointer (some ⟨a, 0, none⟩), .agg #[.int .i64 f, .int .i64 g], .func (.func cl) #[] #[]] w fun e w' => OpL a S M N P (fun p => op (sayR N p f) (sayR N p g)) w e w' := by
  have y1 : Below w.heap.size w (w.alloc (.cells #[.int .i64 f, .int .i64 g] 100)) := al (Below.refl _ _) _
  have nb : (w.alloc (.cells #[.int .i64 f, .int .i64 g] 100)).heap[w.heap.size]? = some (.cells #[.int .i64 f, .int .i64 g] 100 (0, 0)) := heap_alloc_new w _
  have HKN := hide hkn
  have HH := hide h
  have HF := hide hf
  have HG := hide hg
  have X1 := hide y1
  have NB := hide nb
  have e0 : (w.alloc (.cells #[.int .i64 f, .int .i64 g] 100)).cell? ⟨w.heap.size, 0, none⟩ = some (.int .i64 f) := by rw [cell_of_row _ _ _ _ _ _ nb]; rfl
  have e1 : (w.alloc (.cells #[.int .i64 f, .int .i64 g] 100)).cell? ⟨w.heap.size, 1, none⟩ = some (.int .i64 g) := by rw [cell_of_row _ _ _ _ _ _ nb]; rfl
  clear h hf hg y1 nb hkn
  go_enter Try.func57, Try.ntmps57
  go_upto_region 1 with fail
  generalize w.alloc (.cells #[.int .i64 f, .int .i64 g] 100) = w1 at *
  generalize hpb : w.heap.size = pb at *
  have HPB := hide hpb
  clear hpb
  have y2 : Below w1.heap.size w1 (w1.alloc (.cells #[.int .i64 f, .int .i64 g] 3)) := al (Below.refl _ _) _
  have X2 : Hid (Below w.heap.size w (w1.alloc (.cells #[.int .i64 f, .int .i64 g] 3))) := by unfold Hid; rw [HPB.out]; exact bt X1.out y2 (by rw [HPB.out]; exact Nat.le_refl _)
  have AT := hide (areThere_any (some ⟨w1.heap.size, 0, none⟩) 2 [f, g] (by simp) (zat_new w1 [f, g]) (HH.out.below X2.out))
  have Y2 := hide y2
  clear y2
  go_upto_region 3 with (go_at_call 59; refine AT.out.mono ?_; rintro e w2 ⟨⟨b, rfl, hb⟩, x2⟩; have hbt := hb.2 (by intro z hz; simp at hz; rcases hz with rfl | rfl; exact HF.out; exact HG.out); subst hbt; have X3 := hide (bt X2.out x2 (Nat.le_refl _)); have Y3 := hide (bt Y2.out x2 (Nat.le_refl _)); clear hb x2)
  clear AT e0 e1 X2 Y2
  have NM := hide (newMemory_any a w2)
  have NB2 : Hid (w2.heap[pb]? = some (.cells #[.int .i64 f, .int .i64 g] 100 (0, 0))) := (Y3.out.block _ (lt_of_block NB.out)).trans NB.out
  go_upto_region 4 with (go_at_call 60; refine NM.out.mono ?_; rintro e w3 ⟨mm, rb, kb, kv, rfl, nm⟩; have NW := hide nm; clear nm)
  clear NM
  have NB3 : Hid (w3.heap[pb]? = some (.cells #[.int .i64 f, .int .i64 g] 100 (0, 0))) := (NW.out.bel.block _ (lt_of_block NB2.out)).trans NB2.out
  have c1 : w3.cell? ⟨mm, 1, none⟩ = some kv := by rw [cell_of_row _ _ _ _ _ _ NW.out.blk]; rfl
  have f1 := frozen_of_row w3 mm 1 _ _ NW.out.blk
  have NW4 : Hid (NwM w2 (w3.setCell ⟨mm, 1, none⟩ (.func (.func cl) #[] #[])) a mm rb kb (.func (.func cl) #[] #[])) := by
    have h := NW.out
    have hr : rb ≠ mm := fun e => by have h1 := h.blk; rw [← e, h.rbk] at h1; cases h1
    have hk : kb ≠ mm := fun e => by have h1 := h.blk; rw [← e, h.kbk] at h1; cases h1
    exact ⟨bl h.bel h.m1 _ _, by rw [block_setCell h.blk 1]; rfl, (Below.heap_setCell _ _ _ _ hr).trans h.rbk, (Below.heap_setCell _ _ _ _ hk).trans h.kbk, h.ne, h.m1, h.m2, h.m3⟩
  have NB4 : Hid ((w3.setCell ⟨mm, 1, none⟩ (.func (.func cl) #[] #[])).heap[pb]? = some (.cells #[.int .i64 f, .int .i64 g] 100 (0, 0))) := (Below.heap_setCell _ _ _ _ (fun e => by have h1 := lt_of_block NB2.out; have h2 := NW.out.m1; have e' : pb = mm := e; omega)).trans NB3.out
  go_upto_region 5 with fail
  generalize w3.setCell ⟨mm, 1, none⟩ (.func (.func cl) #[] #[]) = w4 at *
  have C : Hid (∃ c : Cf, c = ⟨a, S, M, mm, rb, kb, .func (.func cl) #[] #[], op, fun p => p, False, []⟩) := ⟨_, rfl⟩
  obtain ⟨c, hc⟩ := C.out
  have MS4 : Hid (MS w4 c N P (fun _ => False)) := MS.start (w0 := w2) (m := m) (by rw [hc]; exact HH.out.below X3.out) (by rw [hc]; exact NW4.out) (by rw [hc]; intro y hy; cases hy)
  have KC := hide (HKN.out c (by rw [hc]) (by rw [hc]) (by rw [hc]) (by rw [hc]))
  have RS := result_any (f := f) (g := g) KC.out MS4.out HF.out HG.out (by rw [hc]; exact False.elim)
  have hmm : c.mm = mm := by rw [hc]
  rw [hmm] at RS
  have RS2 := hide RS
  have HC := hide hc
  have e0 : w4.cell? ⟨pb, 0, none⟩ = some (.int .i64 f) := by rw [cell_of_row _ _ _ _ _ _ NB4.out]; rfl
  have e1 : w4.cell? ⟨pb, 1, none⟩ = some (.int .i64 g) := by rw [cell_of_row _ _ _ _ _ _ NB4.out]; rfl
  clear RS hc hmm c1 f1
  go_wp2_with (go_at_call 64; refine RS2.out.mono ?_; rintro e w5 ⟨r, er, N', P', rfl, ca5, k5, p5, ok5⟩; have CA5 := hide ca5; have K5 := hide k5; have P5 := hide p5; have OK5 := hide ok5; clear ca5 k5 p5 ok5)
  go_ret2
  have hsz : w.heap.size ≤ w4.heap.size := Nat.le_trans X3.out.size NW4.out.bel.size
  have hx : Kept P w w4 := (Kept.of_below X3.out).trans (Kept.of_below NW4.out.bel)
  have hca := CA5.out
  have hok := OK5.out
  have hk5 := K5.out
  rw [HC.out] at hca hok hk5
  refine ⟨r, er, N', P', rfl, hca, hx.trans_new hk5 (fun b hb hF => ?_), fun b hb => (P5.out b hb).imp id (Nat.le_trans hsz), ?_⟩
  · rcases hF with h1 | h1 | h1
    · exact h1
    · have h2 := NW4.out.m2
      have h3 := X3.out.size
      have h4 : b = rb := h1
      omega
    · have h2 := NW4.out.m3
      have h3 := X3.out.size
      have h4 : b = kb := h1
      omega
  · have ok0 := HH.out.ok
    have hq := KC.out.hq
    have hg0 := phi_hang (l := 0) hq (by rw [HC.out]; exact ok0) HF.out HG.out (by rw [HC.out]; exact (ok0.lvl_le HF.out).1) (by rw [HC.out]; exact (ok0.lvl_le HG.out).1)
    rw [HC.out] at hg0
    refine ⟨hg0, ?_⟩
    rcases hok with ⟨h1, ⟨T, h2⟩, h3, h4⟩ | ⟨h1, h2, h3, h4⟩
    · subst h2
      exact .inl ⟨h1, ⟨T, rfl⟩, ⟨h3.has, fun p hp => by
        have h5 := h3.say p hp
        rw [h5]
        show op (sayR (N ++ T) p f) (sayR (N ++ T) p g) = _
        rw [sayR_app ok0 hp HF.out, sayR_app ok0 hp HG.out]⟩, h4⟩
    · exact .inr ⟨h1, h2, h3, h4⟩
end
end Go.Proofs.Ytaafeflbanoncaa
