/-
  The document's Kid by its contract; its memory of an operation: kid, leaf. No condition.
-/
import Derived.Test.YtaafeflbanoncaaQ41
import Derived.Test.YtaafeflbanoncaaQ16
import Derived.Test.YtaafeflbanoncaaQ20
import Derived.Test.YtaafeflbanoncaaQ33
namespace Go.Proofs.Ytaafeflbanoncaa
open Go.RowKit Go.Lib Go.Maps

section
variable {w : World} {x : Nat} {S : List Int} {M : Int} {R : List ND} {N : List Nd} {P : Nat → Prop} {sb sc : Nat} {nv lv : Value} {LV : List Value}
set_option maxRecDepth 100000 in
theorem kidD_any {i c : Nat} {l : Int} {ks : List Int} (h : RA w x S M N P) (hi : N[i]? = some (l, ks)) (hc : c < ks.length) : Calls Try.prog 68 #[.pointer (some ⟨x, 0, none⟩), .int .i64 ((i : Int) + 2), .int .i64 (c : Int)] w fun e w' => e = .returned (.int .i64 (ks.getD c 0)) ∧ w' = w := by
  obtain ⟨R, sb, sc, nv, lv, LV, h1, rfl⟩ := h
  obtain ⟨c0, c1, c2, c3⟩ := h1.cells
  have hfw := h1.few
  have hil := at_lt hi
  rw [List.length_map] at hil
  obtain ⟨ao, cap, hv, hp, _⟩ := h1.row.shape
  obtain ⟨g, rfl⟩ := hp (by omega)
  subst hv
  obtain ⟨d0, d1⟩ := h1.node rfl hil
  have e1 : IntKind.i64.wrap ((i : Int) + 2 - 2) = (i : Int) := by simp [IntKind.wrap, IntKind.bits, IntKind.signed]; omega
  have hi' : (i : Int) < (R.length : Int) := by omega
  rw [List.getElem?_map, List.getElem?_eq_getElem hil] at hi
  have hks : (R[i]).ks = ks := by
    simp only [Option.map_some, Option.some.injEq, ND.nd, Prod.mk.injEq] at hi
    exact hi.2
  have z := h1.kid _ (List.getElem_mem hil)
  rw [hks] at d1 z
  have q := z.cell hc
  have hc' : (c : Int) < (ks.length : Int) := by omega
  generalize (R[i]).kb = kb at *
  generalize (R[i]).kc = kc at *
  clear h1 hp d0 hi hks z
  generalize ks.getD c 0 = r at *
  generalize R.length = n at *
  go_enter Try.func68, Try.ntmps68
  go_wp2
  go_ret
  exact ⟨rfl, rfl⟩
end
/-- What the document's operation is. -/
structure Df where
  x : Nat
  S : List Int
  M : Int
  mm : Nat
  lb : Nat
  n : Nat
  what : Int
section
variable {w : World} {d : Df} {N : List Nd} {P : Nat → Prop}
/-- The operation's own block. -/
def DBk (w : World) (d : Df) (er : Int) : Prop := w.heap[d.mm]? = some (.cells #[.pointer (some ⟨d.x, 0, none⟩), .int .i64 d.what, .slice (some ⟨d.lb, 0, none⟩) d.n d.n, .int .i64 er] 128 (0, 0))
theorem DBk.cells {er : Int} (h : DBk w d er) : w.cell? ⟨d.mm, 0, none⟩ = some (.pointer (some ⟨d.x, 0, none⟩)) ∧ w.cell? ⟨d.mm, 1, none⟩ = some (.int .i64 d.what) ∧ w.cell? ⟨d.mm, 2, none⟩ = some (.slice (some ⟨d.lb, 0, none⟩) d.n d.n) ∧ w.cell? ⟨d.mm, 3, none⟩ = some (.int .i64 er) := by
  refine ⟨?_, ?_, ?_, ?_⟩ <;> (rw [cell_of_row w d.mm _ _ _ _ h]; rfl)
set_option maxRecDepth 100000 in
theorem kidM_any {f er : Int} {l c : Nat} (h : RA w d.x d.S d.M N P) (hb : DBk w d er) (hf : hasR N f) (hl : l < d.S.length) (hfl : (l : Int) ≤ lvl d.S N f) (hc : (c : Int) < d.S.getD l 0) :
    Calls Try.prog 84 #[.pointer (some ⟨d.mm, 0, none⟩), .int .i64 f, .int .i64 (l : Int), .int .i64 (c : Int)] w fun e w' => e = .returned (.int .i64 (kidR d.S N l f c)) ∧ w' = w := by
  obtain ⟨c0, c1, c2, c3⟩ := hb.cells
  have HL := hide (h.level f)
  by_cases e : lvl d.S N f = (l : Int)
  · obtain ⟨h2, ks, hn⟩ := h.ok.node_of_lvl hf e hl
    have hat := hn.at_
    obtain ⟨i, hi⟩ : ∃ i : Nat, f = (i : Int) + 2 := ⟨(f - 2).toNat, by omega⟩
    subst hi
    rw [show ((i : Int) + 2 - 2).toNat = i by omega] at hat
    have hcl : c < ks.length := by have := hn.len; omega
    have HK := hide (kidD_any h hat hcl)
    rw [kidR_node hn]
    rw [e] at HL
    generalize ks.getD c 0 = r at *
    clear h hf hn hat e h2 hcl hfl hc
    go_enter Try.func84, Try.ntmps84
    go_wp2_with (first
      | (go_at_call 53; refine HL.out.mono ?_; rintro e w1 ⟨rfl, hw1⟩; have hw2 := hw1.symm; clear hw1; subst hw2)
      | (go_at_call 68; refine HK.out.mono ?_; rintro e w1 ⟨rfl, hw1⟩; have hw2 := hw1.symm; clear hw1; subst hw2))
    go_ret
    exact ⟨rfl, rfl⟩
  · rw [kidR_self e]
    have hgt : (l : Int) < lvl d.S N f := by omega
    clear h hf e hc
    generalize lvl d.S N f = y at *
    go_enter Try.func84, Try.ntmps84
    go_wp2_with (go_at_call 53; refine HL.out.mono ?_; rintro e w1 ⟨rfl, hw1⟩; have hw2 := hw1.symm; clear hw1; subst hw2)
    go_ret
    exact ⟨rfl, rfl⟩
/-- What is done. -/
def opD (what : Int) (a b : Bool) : Bool := if what = 1 then a && b else if what = 2 then a || b else a != b
def leafZ (what f g : Int) : Int := if what = 1 then f * g else if what = 2 then max f g else (f + g) % 2
theorem leafZ_rep {what f g : Int} {p : Nat → Nat} (hf : f = 0 ∨ f = 1) (hg : g = 0 ∨ g = 1) : (leafZ what f g = 0 ∨ leafZ what f g = 1) ∧ sayR N p (leafZ what f g) = opD what (sayR N p f) (sayR N p g) := by
  have s0 : sayR N p 0 = false := by rw [sayR_low (by omega)]; rfl
  have s1 : sayR N p 1 = true := by rw [sayR_low (by omega)]; rfl
  unfold leafZ opD
  by_cases h1 : what = 1
  · rw [if_pos h1, if_pos h1]
    rcases hf with rfl | rfl <;> rcases hg with rfl | rfl <;> simp [s0, s1]
  · rw [if_neg h1, if_neg h1]
    by_cases h2 : what = 2
    · rw [if_pos h2, if_pos h2]
      rcases hf with rfl | rfl <;> rcases hg with rfl | rfl
      · rw [show max (0 : Int) 0 = 0 by decide, s0]; simp
      · rw [show max (0 : Int) 1 = 1 by decide, s0, s1]; simp
      · rw [show max (1 : Int) 0 = 1 by decide, s0, s1]; simp
      · rw [show max (1 : Int) 1 = 1 by decide, s1]; simp
    · rw [if_neg h2, if_neg h2]
      rcases hf with rfl | rfl <;> rcases hg with rfl | rfl <;> simp [s0, s1]
set_option maxRecDepth 100000 in
theorem leaf_any {f g er : Int} (hb : DBk w d er) (hf : f = 0 ∨ f = 1) (hg : g = 0 ∨ g = 1) : Calls Try.prog 82 #[.pointer (some ⟨d.mm, 0, none⟩), .int .i64 f, .int .i64 g] w fun e w' => e = .returned (.int .i64 (leafZ d.what f g)) ∧ w' = w := by
  obtain ⟨c0, c1, c2, c3⟩ := hb.cells
  by_cases h1 : d.what = 1
  · have h1' : (d.what == 1) = true := by rw [h1]; rfl
    have HE : Hid (leafZ d.what f g = f * g) := by unfold Hid leafZ; rw [if_pos h1]
    clear h1
    rcases hf with rfl | rfl <;> rcases hg with rfl | rfl <;>
    (go_enter Try.func82, Try.ntmps82
     go_wp2
     go_ret
     exact ⟨by rw [HE.out]; rfl, rfl⟩)
  · have h1' : (d.what == 1) = false := beq_eq_false_iff_ne.2 h1
    by_cases h2 : d.what = 2
    · have h2' : (d.what == 2) = true := by rw [h2]; rfl
      have HE : Hid (leafZ d.what f g = max f g) := by unfold Hid leafZ; rw [if_neg h1, if_pos h2]
      clear h1 h2
      rcases hf with rfl | rfl <;> rcases hg with rfl | rfl <;>
      (go_enter Try.func82, Try.ntmps82
       go_wp2
       go_ret
       exact ⟨by rw [HE.out]; rfl, rfl⟩)
    · have h2' : (d.what == 2) = false := beq_eq_false_iff_ne.2 h2
      have HE : Hid (leafZ d.what f g = (f + g) % 2) := by unfold Hid leafZ; rw [if_neg h1, if_neg h2]
      clear h1 h2
      rcases hf with rfl | rfl <;> rcases hg with rfl | rfl <;>
      (go_enter Try.func82, Try.ntmps82
       go_wp2
       go_ret
       exact ⟨by rw [HE.out]; rfl, rfl⟩)
end
end Go.Proofs.Ytaafeflbanoncaa
/-
  The document's memory of an operation: what pairs of refs came to, in lists by the first ref; found. No condition.
-/
namespace Go.Proofs.Ytaafeflbanoncaa
open Go.RowKit Go.Lib Go.Maps

def prC (L : List (Int × Int)) : List Value := L.flatMap fun p => [.int .i64 p.1, .int .i64 p.2]
theorem prC_length : ∀ L : List (Int × Int), (prC L).length = L.length * 2
  | [] => rfl
  | p :: L => by
    have := prC_length L
    simp only [prC, List.flatMap_cons, List.length_append, List.length_cons, List.length_nil] at *
    omega
theorem prC_snoc (L : List (Int × Int)) (p : Int × Int) : prC (L ++ [p]) = prC L ++ [.int .i64 p.1, .int .i64 p.2] := by simp [prC]
theorem prC_get : ∀ (L : List (Int × Int)) (i : Nat) (h : i < L.length), (prC L)[i * 2]? = some (.int .i64 (L[i]).1) ∧ (prC L)[i * 2 + 1]? = some (.int .i64 (L[i]).2)
  | p :: L, 0, _ => by simp [prC]
  | p :: L, i + 1, h => by
    have h' : i < L.length := by simpa using h
    have := prC_get L i h'
    simp only [prC, List.flatMap_cons] at *
    rw [Nat.succ_mul]
    simpa using this
abbrev nlV : Value := .slice none 0 0
/-- The blocks of the lists. -/
def OwV (d : Df) (V : List Value) : Nat → Prop := fun k => ∃ f, f < d.n ∧ (V.getD f nlV).ownBlock = some k
/-- The document's memory at work. -/
structure DM (w : World) (d : Df) (B : Nat) (N : List Nd) (Q : Nat → Prop) (LR : Nat → List (Int × Int)) (V : List Value) (er : Int) : Prop where
  ra : RA w d.x d.S d.M N Q
  blk : DBk w d er
  lbk : w.heap[d.lb]? = some (.cells V.toArray 132 (0, 0))
  vl : V.length = d.n
  row : ∀ f, f < d.n → w.ownsRow B 133 2 (V.getD f nlV) (LR f).length (prC (LR f))
  apart : ∀ f f', f < d.n → f' < d.n → f ≠ f' → ∀ k, (V.getD f nlV).ownBlock = some k → ¬ (V.getD f' nlV).ownBlock = some k
  nm : ¬ Q d.mm
  nl : ¬ Q d.lb
  no : ∀ k, OwV d V k → ¬ Q k
  dn : (d.n : Int) ≤ (N.length : Int) + 2
  nod : er = 0 → ∀ f, f < d.n → ((LR f).map (·.1)).Nodup
  good : er = 0 → ∀ f, f < d.n → ∀ e ∈ LR f, 0 ≤ e.1 ∧ e.1 < (d.n : Int) ∧ PtOk d.S N (opD d.what) (fun p => p) (f : Int) e.1 e.2
section
variable {w w' : World} {d : Df} {B : Nat} {N T : List Nd} {Q Q' : Nat → Prop} {LR : Nat → List (Int × Int)} {V : List Value} {er : Int}
theorem DM.lbc (h : DM w d B N Q LR V er) {f : Nat} (hf : f < d.n) : w.cell? ⟨d.lb, f, none⟩ = some (V.getD f nlV) := by
  rw [cell_of_row w d.lb f _ _ _ h.lbk, List.getElem?_toArray, List.getD_eq_getElem?_getD, List.getElem?_eq_getElem (by rw [h.vl]; exact hf)]
  rfl
theorem DM.types (h : DM w d B N Q LR V er) : d.mm ≠ d.lb ∧ ∀ k, OwV d V k → k ≠ d.mm ∧ k ≠ d.lb := by
  refine ⟨ty_ne h.blk h.lbk (by decide), fun k hk => ?_⟩
  obtain ⟨f, hf, hk⟩ := hk
  obtain ⟨cs, hc⟩ := own_tyk (h.row f hf) hk
  exact ⟨ty_ne hc h.blk (by decide), ty_ne hc h.lbk (by decide)⟩
theorem DM.few (h : DM w d B N Q LR V er) (he : er = 0) {f : Nat} (hf : f < d.n) : (LR f).length ≤ 8194 := by
  have h1 := h.ra.ok.few
  have h2 := h.ra.ok.m1
  have h3 := h.dn
  obtain ⟨n0, hn0⟩ : ∃ n, n = 8194 := ⟨_, rfl⟩
  have := sub_len ((LR f).map (·.1)) ((List.range n0).map fun (i : Nat) => (i : Int)) (h.nod he f hf) (fun x hx => by
    obtain ⟨e, he', rfl⟩ := List.mem_map.1 hx
    obtain ⟨g0, g1, _⟩ := h.good he f hf e he'
    exact List.mem_map.2 ⟨e.1.toNat, List.mem_range.2 (by omega), by omega⟩)
  rw [List.length_map, List.length_map, List.length_range, hn0] at this
  exact this
theorem DM.kept {K : Nat → Prop} (h : DM w d B N Q LR V er) (k : Kept K w w') (hm : ¬ K d.mm) (hl : ¬ K d.lb) (ho : ∀ b, OwV d V b → ¬ K b) (hra : RA w' d.x d.S d.M (N ++ T) Q') (hQ : ∀ b, b < w.heap.size → ¬ Q b → ¬ Q' b) : DM w' d B (N ++ T) Q' LR V er := by
  have a1 := lt_of_block h.blk
  have a2 := lt_of_block h.lbk
  have a3 : ∀ b, OwV d V b → b < w.heap.size := fun b ⟨f, hf, hb⟩ => (World.ownsRow.lt (h.row f hf) b hb).2
  refine ⟨hra, (k.block _ a1 hm).trans h.blk, (k.block _ a2 hl).trans h.lbk, h.vl, fun f hf => own_kept (h.row f hf) k (fun b hb => ho b ⟨f, hf, hb⟩), h.apart, hQ _ a1 h.nm, hQ _ a2 h.nl, fun b hb => hQ b (a3 b hb) (h.no b hb), by have := h.dn; rw [List.length_append]; omega, h.nod, fun he f hf e hm => ?_⟩
  obtain ⟨g0, g1, g2⟩ := h.good he f hf e hm
  have hd := h.dn
  exact ⟨g0, g1, g2.app h.ra.ok (fun _ hp => hp) ⟨by omega, by omega⟩ ⟨g0, by omega⟩⟩
theorem DM.below (h : DM w d B N Q LR V er) (x : Below w.heap.size w w') : DM w' d B N Q LR V er := by
  have := h.kept (K := fun _ => False) (T := []) (Q' := Q) (Kept.of_below x) (fun h => h) (fun h => h) (fun _ _ h => h) (by rw [List.append_nil]; exact h.ra.below x) (fun _ _ h => h)
  rwa [List.append_nil] at this
/-- The arena has grown. -/
theorem DM.step (h : DM w d B N Q LR V er) (k : Kept Q w w') (hra : RA w' d.x d.S d.M (N ++ T) Q') (hQ : Gw w Q Q') : DM w' d B (N ++ T) Q' LR V er :=
  h.kept k h.nm h.nl h.no hra (fun _ hb hq => hQ.not hb hq)
/-- A block that is no part of it was written into. -/
theorem DM.other (h : DM w d B N Q LR V er) {ob : Nat} (k : Kept (fun b => b = ob) w w') (h1 : ob ≠ d.mm) (h2 : ob ≠ d.lb) (h3 : ¬ OwV d V ob) (h4 : ¬ Q ob) : DM w' d B N Q LR V er := by
  have := h.kept (T := []) (Q' := Q) k (Ne.symm h1) (Ne.symm h2) (fun b hb e => h3 (e ▸ hb)) (by rw [List.append_nil]; exact h.ra.kept k (fun b hb e => h4 (e ▸ hb))) (fun _ _ h => h)
  rwa [List.append_nil] at this
def FdM (LR : List (Int × Int)) (g : Int) (w : World) (e : Ending) (w' : World) : Prop := ∃ r is, e = .returned (.tuple #[.int .i64 r, .bool is]) ∧ w' = w ∧ (is = true → (g, r) ∈ LR) ∧ (is = false → ∀ x ∈ LR, x.1 ≠ g)
set_option maxRecDepth 100000 in
set_option maxHeartbeats 2000000 in
theorem found_any {f : Nat} {g : Int} (h : DM w d B N Q LR V 0) (hf : f < d.n) : Calls Try.prog 83 #[.pointer (some ⟨d.mm, 0, none⟩), .int .i64 (f : Int), .int .i64 g] w fun e w' => FdM (LR f) g w e w' := by
  obtain ⟨c0, c1, c2, c3⟩ := h.blk.cells
  have hlc := h.lbc hf
  have hfew := h.few rfl hf
  have hrow := h.row f hf
  obtain ⟨ao, cap, hv, hp⟩ := own_shape hrow
  rw [hv] at hlc hrow
  have hf' : (f : Int) < (d.n : Int) := by omega
  have HRW := hide hrow
  clear h hv hrow
  generalize hLL : LR f = L at *
  clear hLL
  go_enter Try.func83, Try.ntmps83
  go_wp2
  go_loopw [8] (fun x wr => ∃ k : Nat, k ≤ L.length ∧ x = .int .i64 k ∧ Hid (∀ i (h : i < L.length), i < k → (L[i]).1 ≠ g) ∧ Hid (wr = w)) (fun x _ => L.length - (RowKit.intOf x).toNat)
  case atStart => exact ⟨0, Nat.zero_le _, rfl, fun i _ h => by omega, rfl⟩
  case round =>
    obtain ⟨k, hk, rfl, HE, HQ⟩ := hrel
    have hq := HQ.out.symm
    clear HQ
    subst hq
    by_cases hlt : k < L.length
    · have hlt' : (k : Int) < (L.length : Int) := by omega
      obtain ⟨gb, rfl⟩ := hp (by omega)
      obtain ⟨g1, g2⟩ := prC_get L k hlt
      have p1 := (World.ownsRow.cellAt HRW.out (k * 2) (by omega)).trans g1
      have p2 := (World.ownsRow.cellAt HRW.out (k * 2 + 1) (by omega)).trans g2
      have HM : Hid (L[k] ∈ L) := List.getElem_mem hlt
      obtain ⟨x1, hx1⟩ : ∃ x, (L[k]).1 = x := ⟨_, rfl⟩
      obtain ⟨x2, hx2⟩ : ∃ x, (L[k]).2 = x := ⟨_, rfl⟩
      rw [hx1] at p1
      rw [hx2] at p2
      by_cases e : x1 = g
      · have HR : Hid ((g, x2) ∈ L) := by
          have h1 := HM.out
          have : L[k] = (g, x2) := Prod.ext (hx1.trans e) hx2
          rw [this] at h1
          exact h1
        have e' : (x1 == g) = true := by rw [e]; simp
        clear g1 g2 hx1 hx2 e
        go_wp2
        go_ret2
        exact ⟨x2, true, rfl, rfl, fun _ => HR.out, fun h => Bool.noConfusion h⟩
      · have e' : (x1 == g) = false := beq_eq_false_iff_ne.2 e
        have HE2 : Hid (∀ i (h : i < L.length), i < k + 1 → (L[i]).1 ≠ g) := fun i h hi => by
          rcases Nat.lt_or_ge i k with h3 | h3
          · exact HE.out i h h3
          · obtain rfl : i = k := by omega
            rw [hx1]
            exact e
        clear g1 g2 hx1 hx2 e
        go_wp2
        go_roundw
        case rel => exact ⟨k + 1, by omega, by go_num, HE2, by first | exact rfl | exact trivial⟩
        case measure => simp [RowKit.intOf]; omega
    · have hlt' : ¬ (k : Int) < (L.length : Int) := by omega
      go_wp2
      go_ret2
      refine ⟨0, false, rfl, rfl, fun h => Bool.noConfusion h, fun _ x hx => ?_⟩
      obtain ⟨i, hi, rfl⟩ := List.getElem_of_mem hx
      exact HE.out i hi (by omega)
end
end Go.Proofs.Ytaafeflbanoncaa
