/-
  The document's memory of an operation: what pairs of refs came to, in lists by the first ref; found. No condition.
-/
import Derived.Test.YtaafeflbanoncaaP28
import Derived.Test.YtaafeflbanoncaaP15
import Derived.Test.YtaafeflbanoncaaP29
namespace Go.Proofs.Ytaafeflbanoncaa
open Go.RowKit Go.Lib Go.Maps

def prC (L : List (Int × Int)) : List Value := L.flatMap fun p => [.int .i64 p.1, .int .i64 p.2]
theorem prC_length : ∀ L : List (Int × Int), (prC L).length = L.length * 2
  | [] => rfl
  | p :: L => by
    have := prC_length L
    simp only [prC, List.flatMap_cons, List.length_append, List.length_cons, List.length_nil] at *
    omega
theorem prC_snoc (L : List (Int × Int)) (p : Int × Int) : prC (L ++ [p]) = prC L ++ [.int .i64 p.1, .int .i64 p.2] := by simp [prC]
theorem prC_get : ∀ (L : List (Int × Int)) (i : Nat) (h : i < L.length), (prC L)[i * 2]? = some (.int .i64 (L[i]).1) ∧ (prC L)[i * 2 + 1]? = some (.int .i64 (L[i]).2)
  | p :: L, 0, _ => by simp [prC]
  | p :: L, i + 1, h => by
    have h' : i < L.length := by simpa using h
    have := prC_get L i h'
    simp only [prC, List.flatMap_cons] at *
    rw [Nat.succ_mul]
    simpa using this
abbrev nlV : Value := .slice none 0 0
/-- The blocks of the lists. -/
def OwV (d : Df) (V : List Value) : Nat → Prop := fun k => ∃ f, f < d.n ∧ (V.getD f nlV).ownBlock = some k
/-- The document's memory at work. -/
structure DM (w : World) (d : Df) (B : Nat) (N : List Nd) (Q : Nat → Prop) (LR : Nat → List (Int × Int)) (V : List Value) (er : Int) : Prop where
  ra : RA w d.x d.S d.M N Q
  blk : DBk w d er
  lbk : w.heap[d.lb]? = some (.cells V.toArray 132 (0, 0))
  vl : V.length = d.n
  row : ∀ f, f < d.n → w.ownsRow B 133 2 (V.getD f nlV) (LR f).length (prC (LR f))
  apart : ∀ f f', f < d.n → f' < d.n → f ≠ f' → ∀ k, (V.getD f nlV).ownBlock = some k → ¬ (V.getD f' nlV).ownBlock = some k
  nm : ¬ Q d.mm
  nl : ¬ Q d.lb
  no : ∀ k, OwV d V k → ¬ Q k
  dn : (d.n : Int) ≤ (N.length : Int) + 2
  nod : er = 0 → ∀ f, f < d.n → ((LR f).map (·.1)).Nodup
  good : er = 0 → ∀ f, f < d.n → ∀ e ∈ LR f, 0 ≤ e.1 ∧ e.1 < (d.n : Int) ∧ PtOk d.S N (opD d.what) (fun p => p) (f : Int) e.1 e.2
section
variable {w w' : World} {d : Df} {B : Nat} {N T : List Nd} {Q Q' : Nat → Prop} {LR : Nat → List (Int × Int)} {V : List Value} {er : Int}
theorem DM.lbc (h : DM w d B N Q LR V er) {f : Nat} (hf : f < d.n) : w.cell? ⟨d.lb, f, none⟩ = some (V.getD f nlV) := by
  rw [cell_of_row w d.lb f _ _ _ h.lbk, List.getElem?_toArray, List.getD_eq_getElem?_getD, List.getElem?_eq_getElem (by rw [h.vl]; exact hf)]
  rfl
theorem DM.types (h : DM w d B N Q LR V er) : d.mm ≠ d.lb ∧ ∀ k, OwV d V k → k ≠ d.mm ∧ k ≠ d.lb := by
  refine ⟨ty_ne h.blk h.lbk (by decide), fun k hk => ?_⟩
  obtain ⟨f, hf, hk⟩ := hk
  obtain ⟨cs, hc⟩ := own_tyk (h.row f hf) hk
  exact ⟨ty_ne hc h.blk (by decide), ty_ne hc h.lbk (by decide)⟩
theorem DM.few (h : DM w d B N Q LR V er) (he : er = 0) {f : Nat} (hf : f < d.n) : (LR f).length ≤ 8194 := by
  have h1 := h.ra.ok.few
  have h2 := h.ra.ok.m1
  have h3 := h.dn
  obtain ⟨n0, hn0⟩ : ∃ n, n = 8194 := ⟨_, rfl⟩
  have := sub_len ((LR f).map (·.1)) ((List.range n0).map fun (i : Nat) => (i : Int)) (h.nod he f hf) (fun x hx => by
    obtain ⟨e, he', rfl⟩ := List.mem_map.1 hx
    obtain ⟨g0, g1, _⟩ := h.good he f hf e he'
    exact List.mem_map.2 ⟨e.1.toNat, List.mem_range.2 (by omega), by omega⟩)
  rw [List.length_map, List.length_map, List.length_range, hn0] at this
  exact this
theorem DM.kept {K : Nat → Prop} (h : DM w d B N Q LR V er) (k : Kept K w w') (hm : ¬ K d.mm) (hl : ¬ K d.lb) (ho : ∀ b, OwV d V b → ¬ K b) (hra : RA w' d.x d.S d.M (N ++ T) Q') (hQ : ∀ b, b < w.heap.size → ¬ Q b → ¬ Q' b) : DM w' d B (N ++ T) Q' LR V er := by
  have a1 := lt_of_block h.blk
  have a2 := lt_of_block h.lbk
  have a3 : ∀ b, OwV d V b → b < w.heap.size := fun b ⟨f, hf, hb⟩ => (World.ownsRow.lt (h.row f hf) b hb).2
  refine ⟨hra, (k.block _ a1 hm).trans h.blk, (k.block _ a2 hl).trans h.lbk, h.vl, fun f hf => own_kept (h.row f hf) k (fun b hb => ho b ⟨f, hf, hb⟩), h.apart, hQ _ a1 h.nm, hQ _ a2 h.nl, fun b hb => hQ b (a3 b hb) (h.no b hb), by have := h.dn; rw [List.length_append]; omega, h.nod, fun he f hf e hm => ?_⟩
  obtain ⟨g0, g1, g2⟩ := h.good he f hf e hm
  have hd := h.dn
  exact ⟨g0, g1, g2.app h.ra.ok (fun _ hp => hp) ⟨by omega, by omega⟩ ⟨g0, by omega⟩⟩
theorem DM.below (h : DM w d B N Q LR V er) (x : Below w.heap.size w w') : DM w' d B N Q LR V er := by
  have := h.kept (K := fun _ => False) (T := []) (Q' := Q) (Kept.of_below x) (fun h => h) (fun h => h) (fun _ _ h => h) (by rw [List.append_nil]; exact h.ra.below x) (fun _ _ h => h)
  rwa [List.append_nil] at this
/-- The arena has grown. -/
theorem DM.step (h : DM w d B N Q LR V er) (k : Kept Q w w') (hra : RA w' d.x d.S d.M (N ++ T) Q') (hQ : Gw w Q Q') : DM w' d B (N ++ T) Q' LR V er :=
  h.kept k h.nm h.nl h.no hra (fun _ hb hq => hQ.not hb hq)
/-- A block that is no part of it was written into. -/
theorem DM.other (h : DM w d B N Q LR V er) {ob : Nat} (k : Kept (fun b => b = ob) w w') (h1 : ob ≠ d.mm) (h2 : ob ≠ d.lb) (h3 : ¬ OwV d V ob) (h4 : ¬ Q ob) : DM w' d B N Q LR V er := by
  have := h.kept (T := []) (Q' := Q) k (Ne.symm h1) (Ne.symm h2) (fun b hb e => h3 (e ▸ hb)) (by rw [List.append_nil]; exact h.ra.kept k (fun b hb e => h4 (e ▸ hb))) (fun _ _ h => h)
  rwa [List.append_nil] at this
def FdM (LR : List (Int × Int)) (g : Int) (w : World) (e : Ending) (w' : World) : Prop := ∃ r is, e = .returned (.tuple #[.int .i64 r, .bool is]) ∧ w' = w ∧ (is = true → (g, r) ∈ LR) ∧ (is = false → ∀ x ∈ LR, x.1 ≠ g)
set_option maxRecDepth 100000 in
set_option maxHeartbeats 2000000 in
theorem found_any {f : Nat} {g : Int} (h : DM w d B N Q LR V 0) (hf : f < d.n) : Calls Try.prog 83 #[.pointer (some ⟨d.mm, 0, none⟩), .int .i64 (f : Int), .int .i64 g] w fun e w' => FdM (LR f) g w e w' := by
  obtain ⟨c0, c1, c2, c3⟩ := h.blk.cells
  have hlc := h.lbc hf
  have hfew := h.few rfl hf
  have hrow := h.row f hf
  obtain ⟨ao, cap, hv, hp⟩ := own_shape hrow
  rw [hv] at hlc hrow
  have hf' : (f : Int) < (d.n : Int) := by omega
  have HRW := hide hrow
  clear h hv hrow
  generalize hLL : LR f = L at *
  clear hLL
  go_enter Try.func83, Try.ntmps83
  go_wp2
  go_loopw [8] (fun x wr => ∃ k : Nat, k ≤ L.length ∧ x = .int .i64 k ∧ Hid (∀ i (h : i < L.length), i < k → (L[i]).1 ≠ g) ∧ Hid (wr = w)) (fun x _ => L.length - (RowKit.intOf x).toNat)
  case atStart => exact ⟨0, Nat.zero_le _, rfl, fun i _ h => by omega, rfl⟩
  case round =>
    obtain ⟨k, hk, rfl, HE, HQ⟩ := hrel
    have hq := HQ.out.symm
    clear HQ
    subst hq
    by_cases hlt : k < L.length
    · have hlt' : (k : Int) < (L.length : Int) := by omega
      obtain ⟨gb, rfl⟩ := hp (by omega)
      obtain ⟨g1, g2⟩ := prC_get L k hlt
      have p1 := (World.ownsRow.cellAt HRW.out (k * 2) (by omega)).trans g1
      have p2 := (World.ownsRow.cellAt HRW.out (k * 2 + 1) (by omega)).trans g2
      have HM : Hid (L[k] ∈ L) := List.getElem_mem hlt
      obtain ⟨x1, hx1⟩ : ∃ x, (L[k]).1 = x := ⟨_, rfl⟩
      obtain ⟨x2, hx2⟩ : ∃ x, (L[k]).2 = x := ⟨_, rfl⟩
      rw [hx1] at p1
      rw [hx2] at p2
      by_cases e : x1 = g
      · have HR : Hid ((g, x2) ∈ L) := by
          have h1 := HM.out
          have : L[k] = (g, x2) := Prod.ext (hx1.trans e) hx2
          rw [this] at h1
          exact h1
        have e' : (x1 == g) = true := by rw [e]; simp
        clear g1 g2 hx1 hx2 e
        go_wp2
        go_ret2
        exact ⟨x2, true, rfl, rfl, fun _ => HR.out, fun h => Bool.noConfusion h⟩
      · have e' : (x1 == g) = false := beq_eq_false_iff_ne.2 e
        have HE2 : Hid (∀ i (h : i < L.length), i < k + 1 → (L[i]).1 ≠ g) := fun i h hi => by
          rcases Nat.lt_or_ge i k with h3 | h3
          · exact HE.out i h h3
          · obtain rfl : i = k := by omega
            rw [hx1]
            exact e
        clear g1 g2 hx1 hx2 e
        go_wp2
        go_roundw
        case rel => exact ⟨k + 1, by omega, by go_num, HE2, by first | exact rfl | exact trivial⟩
        case measure => simp [RowKit.intOf]; omega
    · have hlt' : ¬ (k : Int) < (L.length : Int) := by omega
      go_wp2
      go_ret2
      refine ⟨0, false, rfl, rfl, fun h => Bool.noConfusion h, fun _ x hx => ?_⟩
      obtain ⟨i, hi, rfl⟩ := List.getElem_of_mem hx
      exact HE.out i hi (by omega)
end
end Go.Proofs.Ytaafeflbanoncaa
/-
  The document's memory: its error is set, an entry more; what apply leaves; kids put together by it. No condition.
-/
namespace Go.Proofs.Ytaafeflbanoncaa
open Go.RowKit Go.Lib Go.Maps

/-- The operation, as the program's is written. -/
def cfD (d : Df) : Cf := { a := d.x, S := d.S, M := d.M, mm := d.mm, rb := 0, kb := 0, kv := .bool false, op := opD d.what, q := fun p => p, Z := False, xs := [] }
theorem cfD_q (d : Df) : QOk (cfD d) := ⟨fun _ h => h, fun _ _ _ h => h⟩
abbrev phD (d : Df) (N : List Nd) (f g : Int) : Phi := phi (cfD d) N f g
/-- What apply may write into. -/
def Fd (d : Df) (Q : Nat → Prop) (V : List Value) : Nat → Prop := fun k => Q k ∨ k = d.mm ∨ k = d.lb ∨ OwV d V k
section
variable {w w' w4 w5 : World} {d : Df} {B : Nat} {N N' T : List Nd} {Q Q' : Nat → Prop} {LR LR' : Nat → List (Int × Int)} {V V' : List Value} {er er' : Int}
theorem DM.setE (h : DM w d B N Q LR V er) (he : er' = 0 → er = 0) (hw : w' = w.setCell ⟨d.mm, 3, none⟩ (.int .i64 er')) : DM w' d B N Q LR V er' ∧ Kept (fun b => b = d.mm) w w' := by
  obtain ⟨t1, t2⟩ := h.types
  have k : Kept (fun b => b = d.mm) w w' := by rw [hw]; exact (Kept.refl (fun b => b = d.mm) w).setCell (p := ⟨d.mm, 3, none⟩) rfl _
  refine ⟨⟨h.ra.kept k (fun b hb e => h.nm (e ▸ hb)), ?_, (k.block _ (lt_of_block h.lbk) (Ne.symm t1)).trans h.lbk, h.vl, fun f hf => own_kept (h.row f hf) k (fun b hb => (t2 b ⟨f, hf, hb⟩).1), h.apart, h.nm, h.nl, h.no, h.dn, fun e => h.nod (he e), fun e => h.good (he e)⟩, k⟩
  unfold DBk
  rw [hw, block_setCell h.blk 3]
  rfl
/-- The lists, one longer by an entry. -/
def addL (LR : Nat → List (Int × Int)) (f : Nat) (e : Int × Int) : Nat → List (Int × Int) := fun i => if i = f then LR f ++ [e] else LR i
theorem getD_set_eq {f : Nat} {v : Value} (h : f < V.length) : (V.set f v).getD f nlV = v := by simp [List.getD_eq_getElem?_getD, h]
theorem getD_set_ne {f i : Nat} {v : Value} (h : i ≠ f) : (V.set f v).getD i nlV = V.getD i nlV := by
  simp only [List.getD_eq_getElem?_getD]
  rw [List.getElem?_set_ne (Ne.symm h)]
theorem DM.push {f : Nat} {g r : Int} {v4 : Value} (h : DM w d B N Q LR V er) (hf : f < d.n) (o4 : w4.ownsRow B 133 2 v4 ((LR f).length + 1) (prC (LR f) ++ [.int .i64 g, .int .i64 r])) (hK : Kept (fun k => (V.getD f nlV).ownBlock = some k) w w4) (hL : ∀ k, v4.ownBlock = some k → (V.getD f nlV).ownBlock = some k ∨ w.heap.size ≤ k) (e5 : w5 = w4.setCell ⟨d.lb, f, none⟩ v4)
    (hok : er = 0 → (0 ≤ g ∧ g < (d.n : Int) ∧ PtOk d.S N (opD d.what) (fun p => p) (f : Int) g r) ∧ ∀ x ∈ LR f, x.1 ≠ g) :
    DM w5 d B N Q (addL LR f (g, r)) (V.set f v4) er ∧ Kept (fun k => k = d.lb ∨ OwV d V k) w w5 ∧ Gw w (OwV d V) (OwV d (V.set f v4)) := by
  obtain ⟨t1, t2⟩ := h.types
  have hfv : f < V.length := by rw [h.vl]; exact hf
  have hlb := lt_of_block h.lbk
  have gw : Gw w (OwV d V) (OwV d (V.set f v4)) := fun k ⟨i, hi, hk⟩ => by
    by_cases e : i = f
    · subst e
      rw [getD_set_eq hfv] at hk
      exact (hL k hk).imp (fun h1 => ⟨i, hi, h1⟩) id
    · rw [getD_set_ne e] at hk
      exact .inl ⟨i, hi, hk⟩
  have k5 : Kept (fun k => k = d.lb) w4 w5 := by rw [e5]; exact (Kept.refl (fun b => b = d.lb) w4).setCell (p := ⟨d.lb, f, none⟩) rfl _
  have kk : Kept (fun k => k = d.lb ∨ (V.getD f nlV).ownBlock = some k) w w5 := (hK.mono (fun _ h => .inr h)).trans_new k5 (fun _ _ e => .inl e)
  have b4 : w4.heap[d.lb]? = some (.cells V.toArray 132 (0, 0)) := (hK.block _ hlb (fun e => (t2 _ ⟨f, hf, e⟩).2 rfl)).trans h.lbk
  have hnl : ∀ k, v4.ownBlock = some k → k ≠ d.lb := fun k hk e => (hL k hk).elim (fun h1 => (t2 k ⟨f, hf, h1⟩).2 e) (fun h1 => by omega)
  have kw : Kept (fun k => k = d.lb ∨ OwV d V k) w w5 := kk.mono (fun _ h => h.imp id (fun h1 => ⟨f, hf, h1⟩))
  have hnq : ∀ b, Q b → ¬ (b = d.lb ∨ OwV d V b) := fun b hb e => e.elim (fun e => h.nl (e ▸ hb)) (fun e => h.no b e hb)
  refine ⟨⟨h.ra.kept kw hnq, (kw.block _ (lt_of_block h.blk) (fun e => e.elim t1 (fun e => (t2 _ e).1 rfl))).trans h.blk, ?_, by rw [List.length_set]; exact h.vl, fun i hi => ?_, fun i j hi hj hij k hk hk2 => ?_, h.nm, h.nl, fun k hk hq => ?_, h.dn, fun he i hi => ?_, fun he i hi e hm => ?_⟩, kw, gw⟩
  · rw [e5, block_setCell b4 f]
    congr 2
    apply Array.ext'
    simp
  · unfold addL
    by_cases e : i = f
    · subst e
      rw [if_pos rfl, getD_set_eq hfv, prC_snoc, List.length_append]
      exact own_kept o4 k5 (fun b hb e => hnl b hb e)
    · rw [if_neg e, getD_set_ne e]
      exact own_kept (h.row i hi) kk (fun b hb e2 => e2.elim (t2 b ⟨i, hi, hb⟩).2 (fun e3 => h.apart i f hi hf e b hb e3))
  · by_cases e : i = f
    · subst e
      rw [getD_set_eq hfv] at hk
      rw [getD_set_ne (Ne.symm hij)] at hk2
      rcases hL k hk with h1 | h1
      · exact h.apart i j hi hj hij k h1 hk2
      · have := (World.ownsRow.lt (h.row j hj) k hk2).2
        omega
    · rw [getD_set_ne e] at hk
      by_cases e2 : j = f
      · subst e2
        rw [getD_set_eq hfv] at hk2
        rcases hL k hk2 with h1 | h1
        · exact h.apart i j hi hj hij k hk h1
        · have := (World.ownsRow.lt (h.row i hi) k hk).2
          omega
      · rw [getD_set_ne e2] at hk2
        exact h.apart i j hi hj hij k hk hk2
  · rcases gw k hk with h1 | h1
    · exact h.no k h1 hq
    · have := h.ra.plt hq
      omega
  · unfold addL
    by_cases e : i = f
    · subst e
      rw [if_pos rfl, List.map_append, List.nodup_append]
      refine ⟨h.nod he i hi, by simp, fun a ha b hb => ?_⟩
      obtain ⟨x, hx, rfl⟩ := List.mem_map.1 ha
      simp at hb
      subst hb
      exact (hok he).2 x hx
    · rw [if_neg e]
      exact h.nod he i hi
  · unfold addL at hm
    by_cases e2 : i = f
    · subst e2
      rw [if_pos rfl] at hm
      rcases List.mem_append.1 hm with h1 | h1
      · exact h.good he i hi e h1
      · simp at h1
        subst h1
        exact (hok he).1
    · rw [if_neg e2] at hm
      exact h.good he i hi e hm
end
end Go.Proofs.Ytaafeflbanoncaa
/-
  What apply leaves; kids put together by it, one more. No condition.
-/
namespace Go.Proofs.Ytaafeflbanoncaa
open Go.RowKit Go.Lib Go.Maps

theorem kidR_le {S : List Int} {M : Int} {N : List Nd} {f : Int} {l c : Nat} (h : Ok S M N) (hs : l < S.length) (hf : hasR N f) (hc : (c : Int) < S.getD l 0) : kidR S N l f c ≤ f := by
  by_cases e : lvl S N f = (l : Int)
  · obtain ⟨h2, ks, hn⟩ := h.node_of_lvl hf e hs
    rw [kidR_node hn]
    have hl2 := hn.len
    have := (hn.kid c (by omega)).2.1
    omega
  · rw [kidR_self e]
    omega
/-- The entries that came have these levels or lower ones. -/
def NewE (d : Df) (N : List Nd) (LR LR' : Nat → List (Int × Int)) (l : Int) : Prop := ∀ f, f < d.n → ∀ e ∈ LR' f, e ∈ LR f ∨ l ≤ min (lvl d.S N (f : Int)) (lvl d.S N e.1)
/-- What apply leaves. -/
def ApL (d : Df) (B : Nat) (N : List Nd) (Q : Nat → Prop) (LR : Nat → List (Int × Int)) (V : List Value) (f g : Int) (w : World) (e : Ending) (w' : World) : Prop :=
  ∃ r er N' Q' LR' V', e = .returned (.int .i64 r) ∧ DM w' d B N' Q' LR' V' er ∧ (∃ T, N' = N ++ T) ∧ Kept (Fd d Q V) w w' ∧ Gw w Q Q' ∧ Gw w (OwV d V) (OwV d V') ∧ ins d.S d.M N (phD d N f g) = (r, er, N') ∧ ((er = 0 ∧ PtOk d.S N' (opD d.what) (fun p => p) f g r ∧ NewE d N LR LR' (min (lvl d.S N f) (lvl d.S N g))) ∨ (er = 2 ∧ r = 0))
/-- Some kids are put together. -/
structure ApI (d : Df) (B : Nat) (N : List Nd) (Q : Nat → Prop) (LR : Nat → List (Int × Int)) (V : List Value) (l : Nat) (f g : Int) (w3 : World) (ob n k : Nat) (N' : List Nd) (Q' : Nat → Prop) (LR' : Nat → List (Int × Int)) (V' : List Value) (ks : List Int) (er : Int) (wr : World) : Prop where
  dm : DM wr d B N' Q' LR' V' er
  ext : ∃ T, N' = N ++ T
  kp : Kept (Fd d Q V) w3 wr
  pp : Gw w3 Q Q'
  oo : Gw w3 (OwV d V) (OwV d V')
  np : ¬ Q' ob
  len : ks.length = k
  out : RwZ wr ob (ks ++ List.replicate (n - k) 0)
  st : (er = 0 ∧ (∀ i, i < k → PtOk d.S N' (opD d.what) (fun p => p) (kidR d.S N l f i) (kidR d.S N l g i) (ks.getD i 0)) ∧ kidsF (ins d.S d.M) N ((cuts d.S (phD d N f g) l).take k) = (ks, 0, N') ∧ NewE d N LR LR' ((l : Int) + 1)) ∨ (er = 2 ∧ kidsF (ins d.S d.M) N (cuts d.S (phD d N f g) l) = ([], 2, N'))
section
variable {w w3 wr w6 w7 : World} {d : Df} {B : Nat} {N N' N2 T : List Nd} {Q Q' Q2 : Nat → Prop} {LR LR' LR2 : Nat → List (Int × Int)} {V V' V2 : List Value} {er : Int}
theorem RwZ.notDM {ob : Nat} {L : List Int} (h : RwZ w ob L) (m : DM w d B N Q LR V er) : ob ≠ d.mm ∧ ob ≠ d.lb ∧ ¬ OwV d V ob := by
  unfold RwZ at h
  refine ⟨ty_ne h m.blk (by decide), ty_ne h m.lbk (by decide), fun ⟨f, hf, hk⟩ => ?_⟩
  obtain ⟨cs, hc⟩ := own_tyk (m.row f hf) hk
  exact ty_ne h hc (by decide) rfl
theorem Fd.old {b : Nat} (h : Fd d Q' V' b) (hb : b < w.heap.size) (p : Gw w Q Q') (o : Gw w (OwV d V) (OwV d V')) : Fd d Q V b := by
  rcases h with h | h | h | h
  · exact .inl ((p b h).elim id (fun h2 => by omega))
  · exact .inr (.inl h)
  · exact .inr (.inr (.inl h))
  · exact .inr (.inr (.inr ((o b h).elim id (fun h2 => by omega))))
theorem ApI.next {l ob n k : Nat} {f g r : Int} {ks : List Int} (hl : l < d.S.length) (hf : hasR N f) (hg : hasR N g) (h0 : Ok d.S d.M N) (hfl : (l : Int) ≤ lvl d.S N f) (hgl : (l : Int) ≤ lvl d.S N g) (hn : (n : Int) = d.S.getD l 0) (hk : k < n) (hob : w3.heap.size ≤ ob) (hdn : (d.n : Int) ≤ (N.length : Int) + 2) (h : ApI d B N Q LR V l f g w3 ob n k N' Q' LR' V' ks 0 wr)
    (m6 : DM w6 d B N2 Q2 LR2 V2 er) (e6 : ∃ T, N2 = N' ++ T) (k6 : Kept (Fd d Q' V') wr w6) (p6 : Gw wr Q' Q2) (o6 : Gw wr (OwV d V') (OwV d V2)) (in6 : ins d.S d.M N' (phD d N' (kidR d.S N l f k) (kidR d.S N l g k)) = (r, er, N2)) (ok6 : (er = 0 ∧ PtOk d.S N2 (opD d.what) (fun p => p) (kidR d.S N l f k) (kidR d.S N l g k) r ∧ NewE d N' LR' LR2 (min (lvl d.S N' (kidR d.S N l f k)) (lvl d.S N' (kidR d.S N l g k)))) ∨ (er = 2 ∧ r = 0)) (hw : w7 = w6.setCell ⟨ob, k, none⟩ (.int .i64 r)) : ApI d B N Q LR V l f g w3 ob n (k + 1) N2 Q2 LR2 V2 (ks ++ [r]) er w7 := by
  have hobl : ob < wr.heap.size := h.out.lt
  obtain ⟨T, hT⟩ := h.ext
  obtain ⟨T2, hT2⟩ := e6
  obtain ⟨d1, d2, d3⟩ := h.out.notDM h.dm
  have o6' : RwZ w6 ob (ks ++ List.replicate (n - k) 0) := h.out.kept k6 (fun hf => by
    rcases hf with h1 | h1 | h1 | h1
    · exact h.np h1
    · exact d1 h1
    · exact d2 h1
    · exact d3 h1)
  have np2 : ¬ Q2 ob := p6.not hobl h.np
  have nv2 : ¬ OwV d V2 ob := o6.not hobl d3
  have ks6 : Kept (fun b => b = ob) w6 w7 := by rw [hw]; exact (Kept.refl (fun b => b = ob) w6).setCell (p := ⟨ob, k, none⟩) rfl _
  have kwr : Kept (Fd d Q V) w3 w6 := h.kp.trans_new k6 (fun b hb hF => hF.old hb h.pp h.oo)
  have hkc : (k : Int) < d.S.getD l 0 := by omega
  have ha := phi_cut (c := cfD d) (T := T) (cfD_q d) h0 hl hf hg hfl hgl (fun _ => rfl) hkc
  rw [← hT] at ha
  have hh : Hang d.S (cutP (phD d N f g) l k) 0 := ((phi_hang (c := cfD d) (cfD_q d) h0 hf hg hfl hgl).cut hkc).all
  have e : ins d.S d.M N' (cutP (phD d N f g) l k) = (r, er, N2) := (ins_alike h.dm.ra.ok hh ha).trans in6
  obtain ⟨_, okk, kf, ne⟩ | ⟨h1, _⟩ := h.st
  rotate_left
  · exact absurd h1 (by decide)
  refine ⟨m6.other ks6 d1 d2 nv2 np2, ⟨T ++ T2, by rw [hT2, hT, List.append_assoc]⟩, kwr.trans_new ks6 (fun b hb e => by omega), h.pp.trans p6 h.kp.size, h.oo.trans o6 h.kp.size, np2, by rw [List.length_append, h.len]; rfl, ?_, ?_⟩
  · have := o6'.set k r
    rw [hw]
    have e : (ks ++ List.replicate (n - k) 0).set k r = ks ++ [r] ++ List.replicate (n - (k + 1)) 0 := by
      rw [List.set_append_right _ _ (by rw [h.len]; exact Nat.le_refl _), h.len, Nat.sub_self, show n - k = (n - (k + 1)) + 1 by omega, List.replicate_succ, List.set_cons_zero, List.append_assoc]
      rfl
    rwa [e] at this
  · have cut := cuts_take (S := d.S) (φ := phD d N f g) hkc
    rcases ok6 with ⟨rfl, ok6, ne6⟩ | ⟨rfl, rfl⟩
    · refine .inl ⟨rfl, fun i hi => ?_, ?_, fun f' hf' x hx => ?_⟩
      · by_cases hik : i < k
        · have e : (ks ++ [r]).getD i 0 = ks.getD i 0 := by rw [List.getD_eq_getElem?_getD, List.getElem?_append_left (by rw [h.len]; exact hik), ← List.getD_eq_getElem?_getD]
          rw [e, hT2]
          have hc : (i : Int) < d.S.getD l 0 := by omega
          have a1 := (kidR_has (c := i) h0 hl hf hfl hc).1
          have a2 := (kidR_has (c := i) h0 hl hg hgl hc).1
          exact (okk i hik).app h.dm.ra.ok (fun _ hp => hp) (by rw [hT]; exact hasR_app a1) (by rw [hT]; exact hasR_app a2)
        · obtain rfl : i = k := by omega
          have e : (ks ++ [r]).getD i 0 = r := by rw [List.getD_eq_getElem?_getD, List.getElem?_append_right (by rw [h.len]; exact Nat.le_refl _), h.len, Nat.sub_self]; rfl
          rw [e]
          exact ok6
      · rw [cut, kids_snoc _ _ _ _ kf, e, if_pos rfl]
      · rcases ne6 f' hf' x hx with h1 | h1
        · exact ne f' hf' x h1
        · have a1 := kidR_has (c := k) h0 hl hf hfl hkc
          have a2 := kidR_has (c := k) h0 hl hg hgl hkc
          obtain ⟨g0, g1, _⟩ := m6.good rfl f' hf' x hx
          have hd : (d.n : Int) ≤ (N.length : Int) + 2 := hdn
          rw [hT, lvl_app a1.1, lvl_app a2.1, lvl_app (f := (f' : Int)) ⟨by omega, by omega⟩, lvl_app (f := x.1) ⟨g0, by omega⟩] at h1
          exact .inr (by omega)
    · refine .inr ⟨rfl, ?_⟩
      have e2 : kidsF (ins d.S d.M) N ((cuts d.S (phD d N f g) l).take (k + 1)) = ([], 2, N2) := by
        rw [cut, kids_snoc _ _ _ _ kf, e, if_neg (show ¬ (2 : Int) = 0 by decide)]
      have := kids_stop _ _ _ _ (by decide) e2 ((cuts d.S (phD d N f g) l).drop (k + 1))
      rwa [List.take_append_drop] at this
end
end Go.Proofs.Ytaafeflbanoncaa
