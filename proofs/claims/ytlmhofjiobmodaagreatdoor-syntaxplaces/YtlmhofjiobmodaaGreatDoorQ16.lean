/-
  What reading a condition comes to; a row of conditions that grows. No condition.
-/
import Derived.Test.YtlmhofjiobmodaaGreatDoorQ11
import Derived.Test.YtlmhofjiobmodaaGreatDoorQ15
namespace Go.Proofs.YtlmhofjiobmodaaGreatDoor
open Go.RowKit Go.Lib

abbrev bk (v : Value) : List Nat := blk v
def PostC (rbase rp g cap : Nat) (Ts : List Tk) (w : World) (x : PR CT) (e : Ending) (w' : World) : Prop := match x with
  | .ok c j => (∃ vs bs, e = .returned (.agg vs.toArray) ∧ CtAt w' w.heap.size c vs bs ∧ bs.Nodup) ∧ RdA w' rbase rp g cap Ts j ∧ Kept (fun k => k = rp) w w'
  | .bad e0 p => e = pan e0 p ∧ Kept (fun k => k = rp) w w'
  | .out => False
theorem PostC.badI {rbase rp g cap : Nat} {Ts : List Tk} {w w' : World} {x : PR CT} {e : Ending} {e0 p : Int} (hx : x = .bad e0 p) (he : e = pan e0 p) (h : Kept (fun k => k = rp) w w') : PostC rbase rp g cap Ts w x e w' := by
  subst hx
  exact ⟨he, h⟩
theorem PostC.okI {rbase rp g cap : Nat} {Ts : List Tk} {w w' : World} {x : PR CT} {e : Ending} {c : CT} {j : Nat} {vs : List Value} {bs : List Nat} (hx : x = .ok c j) (he : e = .returned (.agg vs.toArray)) (h1 : CtAt w' w.heap.size c vs bs) (h2 : bs.Nodup) (h3 : RdA w' rbase rp g cap Ts j) (h : Kept (fun k => k = rp) w w') : PostC rbase rp g cap Ts w x e w' := by
  subst hx
  exact ⟨⟨vs, bs, he, h1, h2⟩, h3, h⟩
mutual
theorem CtAt.mono {w : World} {base base' : Nat} (hb : base' ≤ base) : ∀ (c : CT) (vs : List Value) (bs : List Nat), CtAt w base c vs bs → CtAt w base' c vs bs
  | .mk k nm tx pre sp ns kids p, vs, bs, h => by
    unfold CtAt at h ⊢
    obtain ⟨v3, v4, v5, v6, cs, ks, h1, h2, h3, h4, h5, h6, h7⟩ := h
    exact ⟨v3, v4, v5, v6, cs, ks, h1, own_mono h2 hb, own_mono h3 hb, own_mono h4 hb, own_mono h5 hb, KidsAt.mono hb kids cs ks h6, h7⟩
theorem KidsAt.mono {w : World} {base base' : Nat} (hb : base' ≤ base) : ∀ (l : List CT) (cs : List Value) (ks : List Nat), KidsAt w base l cs ks → KidsAt w base' l cs ks
  | [], cs, ks, h => h
  | c :: l, cs, ks, h => by
    obtain ⟨vs, bs, cs', ks', h1, h2, h3, h4⟩ := h
    exact ⟨vs, bs, cs', ks', h1, h2, CtAt.mono hb c vs bs h3, KidsAt.mono hb l cs' ks' h4⟩
end
/-- What is written into lies below its blocks. -/
theorem CtAt.frame {F : Nat → Prop} {w w' : World} {base base' : Nat} {c : CT} {vs : List Value} {bs : List Nat} (h : CtAt w base c vs bs) (hk : Kept F w w') (hF : ∀ k, F k → k < base) (hb : base' ≤ base) : CtAt w' base' c vs bs :=
  CtAt.mono hb c vs bs (CtAt.kept hk c vs bs h (fun k h1 h2 => by have := (CtAt.lt h k h1).1; have := hF k h2; omega))
theorem blk_none {n c : Nat} : blk (.slice none n c) = [] := rfl

theorem own_none (w : World) (base : Nat) (e : TypeId) (size : Nat) : w.ownsRow base e size (.slice none 0 0) 0 [] := ⟨by simp, .inl ⟨rfl, rfl⟩⟩
/-- One without others within. -/
theorem CtAt.leaf (w : World) (base : Nat) (k : Int) (nm tx : By) (p : Int) : CtAt w base (.mk k nm tx [] [] [] [] p) [.int .i64 k, .string ⟨nm.toArray⟩, .string ⟨tx.toArray⟩, .slice none 0 0, .slice none 0 0, .slice none 0 0, .slice none 0 0, .int .i64 p] [] := by
  unfold CtAt
  exact ⟨_, _, _, _, [], [], rfl, own_none w base 47 2, own_none w base 68 2, own_none w base 9 1, own_none w base 60 8, ⟨rfl, rfl⟩, rfl⟩
theorem TcA.ct {w : World} {base cp : Nat} {c : CT} {v3 v4 v5 : Value} (h : TcA w base cp c v3 v4 v5) : CtAt w base c [.int .i64 c.k, .string ⟨c.nm.toArray⟩, .string ⟨c.tx.toArray⟩, v3, v4, v5, .slice none 0 0, .int .i64 c.p] (bk v3 ++ (bk v4 ++ (bk v5 ++ []))) := by
  cases c with
  | mk k nm tx pre sp ns kids p =>
    have e : kids = [] := h.kids
    subst e
    unfold CtAt
    exact ⟨_, _, _, _, [], [], rfl, h.o3, h.o4, h.o5, own_none w base 60 8, ⟨rfl, rfl⟩, rfl⟩
theorem blk_nodup (v : Value) : (blk v).Nodup := by
  unfold blk
  cases v.ownBlock with
  | none => exact List.nodup_nil
  | some k => simp
theorem blk_apart {w : World} {base e e' size size' n n' : Nat} {v v' : Value} {xs xs' : List Value} (h : w.ownsRow base e size v n xs) (h' : w.ownsRow base e' size' v' n' xs') (he : e ≠ e') : ∀ k ∈ blk v, ∀ j ∈ blk v', k ≠ j := by
  intro k hk j hj e0
  subst e0
  obtain ⟨cs, h1⟩ := own_ty h k (mem_blk.1 hk)
  obtain ⟨cs', h2⟩ := own_ty h' k (mem_blk.1 hj)
  exact block_ne h1 h2 he rfl
theorem TcA.nodup {w : World} {base cp : Nat} {c : CT} {v3 v4 v5 : Value} (h : TcA w base cp c v3 v4 v5) : (bk v3 ++ (bk v4 ++ (bk v5 ++ []))).Nodup := by
  rw [List.append_nil]
  have a := blk_apart h.o3 h.o4 (by decide)
  have b := blk_apart h.o3 h.o5 (by decide)
  have c := blk_apart h.o4 h.o5 (by decide)
  refine List.nodup_append.2 ⟨blk_nodup _, List.nodup_append.2 ⟨blk_nodup _, blk_nodup _, c⟩, fun k hk j hj => ?_⟩
  rcases List.mem_append.1 hj with hj | hj
  · exact a k hk j hj
  · exact b k hk j hj
/-- A row of conditions in a variable. -/
structure RowA (w : World) (base P : Nat) (kind p : Int) (ks : List CT) (v6 : Value) (cs : List Value) (bs : List Nat) : Prop where
  blk : w.heap[P]? = some (.cells #[.int .i64 kind, .string ⟨#[]⟩, .string ⟨#[]⟩, .slice none 0 0, .slice none 0 0, .slice none 0 0, v6, .int .i64 p] 60 (0, 0))
  row : w.ownsRow base 60 8 v6 ks.length cs
  kids : KidsAt w base ks cs bs
  bas : base ≤ P
  nd : (P :: (bk v6 ++ bs)).Nodup
theorem RowA.frame {F : Nat → Prop} {w w' : World} {base P : Nat} {kind p : Int} {ks : List CT} {v6 : Value} {cs : List Value} {bs : List Nat} (h : RowA w base P kind p ks v6 cs bs) (hk : Kept F w w') (hF : ∀ k, F k → k < base) : RowA w' base P kind p ks v6 cs bs :=
  ⟨(hk.block P (lt_of_block h.blk) (fun hf => by have := hF P hf; have := h.bas; omega)).trans h.blk, own_kept h.row hk (fun k h1 h2 => by have := (World.ownsRow.lt h.row k h1).1; have := hF k h2; omega), KidsAt.kept hk ks cs bs h.kids (fun k h1 h2 => by have := (KidsAt.lt h.kids k h1).1; have := hF k h2; omega), h.bas, h.nd⟩
theorem RowA.below {w w' : World} {base P : Nat} {kind p : Int} {ks : List CT} {v6 : Value} {cs : List Value} {bs : List Nat} (h : RowA w base P kind p ks v6 cs bs) (x : Below w.heap.size w w') : RowA w' base P kind p ks v6 cs bs :=
  h.frame (F := fun _ => False) (Kept.of_below x) (fun _ hf => absurd hf (fun h => h))
theorem RowA.ct {w : World} {base P : Nat} {kind p : Int} {ks : List CT} {v6 : Value} {cs : List Value} {bs : List Nat} (h : RowA w base P kind p ks v6 cs bs) : CtAt w base (.mk kind [] [] [] [] [] ks p) [.int .i64 kind, .string ⟨#[]⟩, .string ⟨#[]⟩, .slice none 0 0, .slice none 0 0, .slice none 0 0, v6, .int .i64 p] (bk v6 ++ bs) := by
  unfold CtAt
  exact ⟨_, _, _, _, cs, bs, rfl, own_none w base 47 2, own_none w base 68 2, own_none w base 9 1, h.row, h.kids, rfl⟩
/-- One more. -/
theorem RowA.push {w0 w6 : World} {base P g6 cap6 : Nat} {kind p : Int} {ks : List CT} {v6 : Value} {cs : List Value} {bs : List Nat} {c : CT} {vs : List Value} {cb : List Nat} {b1 H : Nat} (h : RowA w0 base P kind p ks v6 cs bs) (hc : CtAt w0 b1 c vs cb) (hcn : cb.Nodup) (hb1 : base ≤ b1) (hlo : ∀ k ∈ P :: (bk v6 ++ bs), k < b1)
    (hH : w0.heap.size = H) (hg : w0.grownBy w6 v6.ownBlock) (hr : w6.ownsRow base 60 8 (.slice (some ⟨g6, 0, none⟩) (ks.length + 1) cap6) (ks.length + 1) (cs ++ vs)) (hgg : v6.ownBlock = some g6 ∨ g6 = H) :
    let w7 := w6.setCell ⟨P, 6, none⟩ (.slice (some ⟨g6, 0, none⟩) (ks.length + 1) cap6)
    RowA w7 base P kind p (ks ++ [c]) (.slice (some ⟨g6, 0, none⟩) (ks.length + 1) cap6) (cs ++ vs) (bs ++ cb) := by
  intro w7
  have K1 := kept_of_grown hg
  have hnd := List.nodup_cons.1 h.nd
  have hPv : ¬ v6.ownBlock = some P := fun e => hnd.1 (List.mem_append.2 (.inl (mem_blk.2 e)))
  have B6 := (K1.block P (lt_of_block h.blk) hPv).trans h.blk
  have K2 : Kept (fun k => k = P) w6 w7 := Kept.setCell (F := fun k => k = P) (p := ⟨P, 6, none⟩) (Kept.refl _ _) rfl _
  have hsz : base ≤ w0.heap.size := Nat.le_trans h.bas (Nat.le_of_lt (lt_of_block h.blk))
  have hnd2 := List.nodup_append.1 hnd.2
  have hkids : KidsAt w7 base ks cs bs := by
    refine KidsAt.kept K2 _ _ _ (KidsAt.kept K1 _ _ _ h.kids (fun k h1 h2 => ?_)) (fun k h1 h2 => ?_)
    · exact hnd2.2.2 k (mem_blk.2 h2) k h1 rfl
    · subst h2
      exact hnd.1 (List.mem_append.2 (.inr h1))
  have hct : CtAt w7 base c vs cb := by
    refine CtAt.mono hb1 _ _ _ (CtAt.kept K2 _ _ _ (CtAt.kept K1 _ _ _ hc (fun k h1 h2 => ?_)) (fun k h1 h2 => ?_))
    · have := hlo k (List.mem_cons_of_mem _ (List.mem_append.2 (.inl (mem_blk.2 h2))))
      have := (CtAt.lt hc k h1).1
      omega
    · subst h2
      have := hlo k (List.mem_cons_self)
      have := (CtAt.lt hc k h1).1
      omega
  have hgP : g6 ≠ P := by
    rcases hgg with e | e
    · intro h1
      subst h1
      exact hPv e
    · have := lt_of_block h.blk
      omega
  refine ⟨?_, ?_, KidsAt.snoc hkids hct, h.bas, ?_⟩
  · have := block_setCell' B6 6 (.slice (some ⟨g6, 0, none⟩) (ks.length + 1) cap6)
    simpa using this
  · rw [List.length_append, List.length_singleton]
    exact own_kept hr K2 (fun k h1 h2 => by
      have e : g6 = k := by simpa [Value.ownBlock] using h1
      exact hgP (e.trans h2))
  · have hmem : ∀ k ∈ bs, k < w0.heap.size := fun k hk => (KidsAt.lt h.kids k hk).2
    have hmc : ∀ k ∈ cb, b1 ≤ k ∧ k < w0.heap.size := fun k hk => CtAt.lt hc k hk
    have hb : (bs ++ cb).Nodup := List.nodup_append.2 ⟨hnd2.2.1, hcn, fun a ha b hb e => by
      have := hlo a (List.mem_cons_of_mem _ (List.mem_append.2 (.inr ha)))
      have := (hmc b hb).1
      omega⟩
    have hgb : g6 ∉ bs ++ cb := fun hm => by
      rcases List.mem_append.1 hm with hm | hm
      · rcases hgg with e | e
        · exact hnd2.2.2 g6 (mem_blk.2 e) g6 hm rfl
        · have := hmem g6 hm
          omega
      · rcases hgg with e | e
        · have := hlo g6 (List.mem_cons_of_mem _ (List.mem_append.2 (.inl (mem_blk.2 e))))
          have := (hmc g6 hm).1
          omega
        · have := (hmc g6 hm).2
          omega
    have hPb : P ∉ bs ++ cb := fun hm => by
      rcases List.mem_append.1 hm with hm | hm
      · exact hnd.1 (List.mem_append.2 (.inr hm))
      · have := hlo P List.mem_cons_self
        have := (hmc P hm).1
        omega
    show (P :: ([g6] ++ (bs ++ cb))).Nodup
    refine List.nodup_cons.2 ⟨fun hm => ?_, List.nodup_cons.2 ⟨hgb, hb⟩⟩
    rcases List.mem_cons.1 hm with e | hm
    · exact hgP e.symm
    · exact hPb hm
end Go.Proofs.YtlmhofjiobmodaaGreatDoor
/-
  The reader's first by its contract: what is no operator. Condition: conditions are read so.
-/
namespace Go.Proofs.YtlmhofjiobmodaaGreatDoor
open Go.RowKit Go.Lib

theorem Kept.fin {w w5 w9 : World} {rp Q : Nat} (h : Kept (fun k => k = rp) w w5) (h2 : Kept (fun k => k = Q) w5 w9) (hQ : w.heap.size ≤ Q) : Kept (fun k => k = rp) w w9 :=
  Kept.trans_new h h2 (fun k h1 h2 => absurd h1 (by rw [h2]; omega))
theorem RdA.gl {w : World} {rbase rp g cap : Nat} {Ts : List Tk} {i : Nat} (h : RdA w rbase rp g cap Ts i) : rp < w.heap.size ∧ g < w.heap.size := ⟨lt_of_block h.blk, (World.ownsRow.lt h.row g rfl).2⟩
theorem kindAt_le (Ts : List Tk) (word : Nat → By) (i : Nat) : ∀ (n k : Nat), kindAt Ts word i n k = 0 ∨ (k ≤ kindAt Ts word i n k ∧ kindAt Ts word i n k < k + n ∧ isT Ts 1 (word (kindAt Ts word i n k)) i = true)
  | 0, k => .inl rfl
  | n + 1, k => by
    unfold kindAt
    by_cases h : isT Ts 1 (word k) i = true
    · rw [if_pos h]
      exact .inr ⟨Nat.le_refl _, by omega, h⟩
    · rw [if_neg h]
      rcases kindAt_le Ts word i n (k + 1) with h1 | ⟨h1, h2, h3⟩
      · exact .inl h1
      · exact .inr ⟨by omega, by omega, h3⟩
set_option maxRecDepth 100000 in
set_option maxHeartbeats 2000000 in
theorem rest_none {w : World} {base cp rbase rp g cap : Nat} {Ts : List Tk} {f i : Nat} {c : CT} {v3 v4 v5 : Value} (hk : c.k < 7) (hT : TcA w base cp c v3 v4 v5) (hR : RdA w rbase rp g cap Ts i) : Calls Tryz.prog 145 #[.pointer (some ⟨rp, 0, none⟩), .pointer (some ⟨cp, 0, none⟩)] w (PostL base cp rbase rp g cap Ts w (restP Ts f c i)) := by
  have hx : restP Ts f c i = .ok c i := by
    unfold restP
    rw [if_neg (by omega), if_neg (by omega), if_neg (by omega), if_neg (by omega), if_neg (by omega), if_neg (by omega)]
  rw [hx]
  obtain ⟨ck, hck⟩ : ∃ ck, ck = c.k := ⟨_, rfl⟩
  rw [← hck] at hk
  have b7 : (ck == 7) = false := by simp; omega
  have b8 : (ck == 8) = false := by simp; omega
  have b9 : (ck == 9) = false := by simp; omega
  have b10 : (ck == 10) = false := by simp; omega
  have b11 : (ck == 11) = false := by simp; omega
  have b12 : (ck == 12) = false := by simp; omega
  have XA := hide (show Below w.heap.size w (w.alloc (.cells #[.pointer (some ⟨rp, 0, none⟩)] 102)) from al (Below.refl _ _) _)
  obtain ⟨W, hW⟩ : ∃ W, W = (w.alloc (.cells #[.pointer (some ⟨rp, 0, none⟩)] 102)).alloc (.cells #[.pointer (some ⟨cp, 0, none⟩)] 177) := ⟨_, rfl⟩
  have XW := hide (show Below w.heap.size w W by rw [hW]; exact al XA.out _)
  obtain ⟨rv, hrv⟩ : ∃ rv, rv = w.heap.size := ⟨_, rfl⟩
  obtain ⟨vp, hvp⟩ : ∃ vp, vp = (w.alloc (.cells #[.pointer (some ⟨rp, 0, none⟩)] 102)).heap.size := ⟨_, rfl⟩
  have HU := hide (show W.heap[rv]? = some (.cells #[.pointer (some ⟨rp, 0, none⟩)] 102 (0, 0)) by
    rw [hW, hrv]
    exact (heap_alloc_old _ _ (by simp)).trans (heap_alloc_new w _))
  have HV := hide (show W.heap[vp]? = some (.cells #[.pointer (some ⟨cp, 0, none⟩)] 177 (0, 0)) by
    rw [hW, hvp]
    exact heap_alloc_new _ _)
  have hvq : vp = w.heap.size + 1 := by rw [hvp]; simp
  have NE : Hid (vp ≠ rp ∧ rv ≠ rp) := by
    have h1 := lt_of_block hR.blk
    exact ⟨by omega, by omega⟩
  have R0 := hide (hR.below XW.out)
  have L0 : Hid (LfK base rp w W) := LfK.of_below XW.out
  have T0 := hide (hT.below XW.out)
  clear hR hT XA hk hx
  have c0 : W.cell? ⟨vp, 0, none⟩ = some (.pointer (some ⟨cp, 0, none⟩)) := by rw [cell_of_row _ _ _ _ _ _ HV.out]; rfl
  have c1 : W.cell? ⟨cp, 0, none⟩ = some (.int .i64 ck) := by rw [cell_of_row _ _ _ _ _ _ T0.out.blk, hck]; rfl
  clear hck
  have c2 : W.cell? ⟨rv, 0, none⟩ = some (.pointer (some ⟨rp, 0, none⟩)) := by rw [cell_of_row _ _ _ _ _ _ HU.out]; rfl
  go_enter Tryz.func145, Tryz.ntmps145
  go_upto_region 1 with fail
  rw [← hvq, ← hW, ← hrv]
  clear hW hrv hvp hvq XW
  go_wp2
  go_end0
  exact PostL.okI rfl rfl ⟨_, _, _, T0.out⟩ R0.out L0.out
theorem rest_all {w : World} {base cp rbase rp g cap : Nat} {Ts : List Tk} {f i : Nat} {c : CT} {v3 v4 v5 : Value} (h1 : c.k ≤ 12) (hT : TcA w base cp c v3 v4 v5) (hR : RdA w rbase rp g cap Ts i) (h0 : szC c = 0) (hne : restP Ts f c i ≠ .out) : Calls Tryz.prog 145 #[.pointer (some ⟨rp, 0, none⟩), .pointer (some ⟨cp, 0, none⟩)] w (PostL base cp rbase rp g cap Ts w (restP Ts f c i)) := by
  by_cases hk : c.k < 7
  · exact rest_none hk hT hR
  · exact rest_any (by omega) hT hR h0 hne
set_option maxRecDepth 100000 in
set_option maxHeartbeats 4000000 in
theorem first_any {rbase rp g cap : Nat} {Ts : List Tk} {f i : Nat} {w : World} (hf : 4 * (Ts.length - i) + 2 ≤ f + 1) (IH : ∀ (l : Nat) (V : World), l ≤ Ts.length → 4 * (Ts.length - l) + 5 ≤ f → RdA V rbase rp g cap Ts l → Calls Tryz.prog 77 #[.pointer (some ⟨rp, 0, none⟩), .int .i64 0] V (PostC rbase rp g cap Ts V (condP Ts f 0 l))) (hR : RdA w rbase rp g cap Ts i) :
    Calls Tryz.prog 117 #[.pointer (some ⟨rp, 0, none⟩)] w (PostC rbase rp g cap Ts w (condP Ts (f + 1) 3 i)) := by
  obtain ⟨x, hx⟩ : ∃ x, x = condP Ts (f + 1) 3 i := ⟨_, rfl⟩
  rw [← hx]
  rw [condP_three] at hx
  have HX := hide hx
  have HF := hide hf
  have HIH := hide IH
  obtain ⟨Q, hQ⟩ : ∃ Q, Q = w.heap.size := ⟨_, rfl⟩
  obtain ⟨W, hW⟩ : ∃ W, W = w.alloc (.cells #[.int .i64 0, .string ⟨#[]⟩, .string ⟨#[]⟩, .slice none 0 0, .slice none 0 0, .slice none 0 0, .slice none 0 0, .int .i64 0] 60) := ⟨_, rfl⟩
  have X0 := hide (show Below w.heap.size w W by rw [hW]; exact al (Below.refl _ _) _)
  have Q0 := hide (show W.heap[Q]? = some (.cells #[.int .i64 0, .string ⟨#[]⟩, .string ⟨#[]⟩, .slice none 0 0, .slice none 0 0, .slice none 0 0, .slice none 0 0, .int .i64 0] 60 (0, 0)) by rw [hW, hQ]; exact heap_alloc_new w _)
  have R0 := hide (hR.below X0.out)
  have HQE := hide hQ
  have HGL : Hid (rp < Q ∧ g < Q) := by have := hR.gl; unfold Hid; omega
  have HLT := hide hR.lt
  clear hx hf IH hR
  have HS := hide (isSgn_any R0.out [40])
  go_enter Tryz.func117, Tryz.ntmps117
  go_upto_region 1 with fail
  rw [← hQ, ← hW]
  clear hQ hW
  by_cases hb : isT Ts 7 [40] i = true
  · have HN : Hid (i + 1 < Ts.length) := R0.out.next (by rw [isT_kind hb]; decide)
    have HX2 : Hid (x = (condP Ts f 0 (i + 1)).bind fun c j => (takeT Ts 7 [41] j).bind fun _ l => .ok c l) := by unfold Hid; rw [HX.out, if_pos hb]
    rw [hb] at HS
    clear HX hb
    go_upto_region 2 with (go_at_call 143; refine HS.out.mono ?_; rintro e w1 ⟨rfl, x1⟩; have X1 := hide x1; clear x1)
    have R1 := hide (R0.out.below X1.out)
    have Q1 := hide ((X1.out.block Q (lt_of_block Q0.out)).trans Q0.out)
    have XA := hide (bt X0.out X1.out (Nat.le_refl _))
    clear HS X1 R0 Q0 X0
    obtain ⟨_, c1⟩ := R1.out.two
    have f1 := frozen_of_row w1 rp 1 _ _ R1.out.blk
    have fw : IntKind.i64.wrap ((i : Int) + 1) = (i : Int) + 1 := by have := R1.out.few; have := HN.out; simp [IntKind.wrap, IntKind.bits, IntKind.signed]; omega
    go_upto_region 3 with fail
    clear c1 f1 fw
    have R2 := hide (R1.out.step HN.out)
    have K2 : Hid (Kept (fun k => k = rp) w1 (w1.setCell ⟨rp, 1, none⟩ (.int .i64 ((i : Int) + 1)))) := Kept.setCell (F := fun k => k = rp) (p := ⟨rp, 1, none⟩) (Kept.refl _ _) rfl _
    have KA := hide ((Kept.of_below (F := fun k => k = rp) XA.out).trans K2.out)
    have nQ : Q ≠ rp := by have := HGL.out; omega
    have Q2 := hide ((K2.out.block Q (lt_of_block Q1.out) nQ).trans Q1.out)
    clear R1 Q1 K2 XA
    generalize w1.setCell ⟨rp, 1, none⟩ (.int .i64 ((i : Int) + 1)) = w2 at *
    have HI := hide (HIH.out (i + 1) w2 (by have := HN.out; omega) (by have := HF.out; have := HN.out; omega) R2.out)
    clear HIH
    go_wp2_with (fail)
    refine HI.out.mono ?_
    intro e w3 hp
    cases hxa : condP Ts f 0 (i + 1) with
    | out => rw [hxa] at hp; exact absurd hp (fun h => h)
    | bad e0 p =>
      rw [hxa] at hp HX2
      obtain ⟨he, k3⟩ := hp
      unfold pan at he
      subst he
      exact ⟨rfl, PostC.badI HX2.out rfl (KA.out.trans k3)⟩
    | ok c j =>
      rw [hxa] at hp HX2
      obtain ⟨⟨vs, bs, rfl, hct, hnd⟩, r3, k3⟩ := hp
      obtain ⟨a3, c3, a4, c4, a5, c5, a6, c6, rfl⟩ := hct.eight
      have C3 := hide hct
      have HND := hide hnd
      have R3 := hide r3
      have K3 := hide k3
      have KB := hide (KA.out.trans k3)
      have HX3 : Hid (x = (takeT Ts 7 [41] j).bind fun _ l => .ok c l) := HX2.out
      have Q3 := hide ((k3.block Q (lt_of_block Q2.out) nQ).trans Q2.out)
      have HQ2 : Hid (Q < w2.heap.size) := lt_of_block Q2.out
      clear hxa hct hnd r3 k3 HX2 HI KA Q2 R2 K3
      have X4 : Hid (Below w3.heap.size w3 (w3.alloc (.cells #[.int .i64 c.k, .string ⟨c.nm.toArray⟩, .string ⟨c.tx.toArray⟩, .slice a3 c.pre.length c3, .slice a4 c.sp.length c4, .slice a5 c.ns.length c5, .slice a6 c.kids.length c6, .int .i64 c.p] 60))) := al (Below.refl _ _) _
      have P4 := hide (heap_alloc_new w3 (.cells #[.int .i64 c.k, .string ⟨c.nm.toArray⟩, .string ⟨c.tx.toArray⟩, .slice a3 c.pre.length c3, .slice a4 c.sp.length c4, .slice a5 c.ns.length c5, .slice a6 c.kids.length c6, .int .i64 c.p] 60))
      go_upto_region 4 with fail
      obtain ⟨P, hP⟩ : ∃ P, P = w3.heap.size := ⟨_, rfl⟩
      rw [← hP] at P4
      have HPP : Hid (Q < P) := by have := lt_of_block Q3.out; unfold Hid; omega
      have R4 := hide (R3.out.below X4.out)
      have Q4 := hide ((X4.out.block Q (lt_of_block Q3.out)).trans Q3.out)
      have C4 := hide (C3.out.below X4.out)
      have KC := hide (KB.out.trans (Kept.of_below X4.out))
      generalize w3.alloc (.cells #[.int .i64 c.k, .string ⟨c.nm.toArray⟩, .string ⟨c.tx.toArray⟩, .slice a3 c.pre.length c3, .slice a4 c.sp.length c4, .slice a5 c.ns.length c5, .slice a6 c.kids.length c6, .int .i64 c.p] 60) = w4 at *
      rw [← hP]
      clear hP C3 R3 Q3 X4 KB
      by_cases hs : isT Ts 7 [41] j = true
      · have HT := hide (takeS_ok R4.out hs)
        have HX4 : Hid (x = .ok c (j + 1)) := by unfold Hid; rw [HX3.out, takeT_ok hs]; rfl
        clear hs HX3
        go_upto_region 5 with (go_at_call 75; refine HT.out.mono ?_; rintro e w5 ⟨rfl, r5, k5⟩; have R5 := hide r5; have K5 := hide k5; clear r5 k5)
        have nP : P ≠ rp := by have := HGL.out; have := HPP.out; omega
        have P5 := hide ((K5.out.block P (lt_of_block P4.out) nP).trans P4.out)
        have Q5 := hide ((K5.out.block Q (lt_of_block Q4.out) nQ).trans Q4.out)
        obtain ⟨q0, q1, q2, q3, q4, q5, q6, q7⟩ := ld8 P5.out
        obtain ⟨⟨_, p0⟩, f0, ⟨_, p1⟩, f1, ⟨_, p2⟩, f2, ⟨_, p3⟩, f3, ⟨_, p4⟩, f4, ⟨_, p5⟩, f5, ⟨_, p6⟩, f6, ⟨_, p7⟩, f7, hsb, hsk⟩ := st8 Q5.out (.int .i64 c.k) (.string ⟨c.nm.toArray⟩) (.string ⟨c.tx.toArray⟩) (.slice a3 c.pre.length c3) (.slice a4 c.sp.length c4) (.slice a5 c.ns.length c5) (.slice a6 c.kids.length c6) (.int .i64 c.p)
        have HSB := hide hsb
        have KQ := hide hsk
        clear hsb hsk
        go_wp2
        clear q0 q1 q2 q3 q4 q5 q6 q7
        clear p0 f0 p1 f1 p2 f2 p3 f3 p4 f4 p5 f5 p6 f6 p7 f7
        generalize ((((((((w5.setCell ⟨Q, 0, none⟩ (.int .i64 c.k)).setCell ⟨Q, 1, none⟩ (.string ⟨c.nm.toArray⟩)).setCell ⟨Q, 2, none⟩ (.string ⟨c.tx.toArray⟩)).setCell ⟨Q, 3, none⟩ (.slice a3 c.pre.length c3)).setCell ⟨Q, 4, none⟩ (.slice a4 c.sp.length c4)).setCell ⟨Q, 5, none⟩ (.slice a5 c.ns.length c5)).setCell ⟨Q, 6, none⟩ (.slice a6 c.kids.length c6)).setCell ⟨Q, 7, none⟩ (.int .i64 c.p)) = w9 at *
        obtain ⟨q0, q1, q2, q3, q4, q5, q6, q7⟩ := ld8 HSB.out
        refine bodyPost_ret (by simp [results, Tryz.results117, go_sem, q0, q1, q2, q3, q4, q5, q6, q7]; try rfl) rfl ?_
        have KF : Hid (Kept (fun k => k = rp ∨ k = Q) w4 w9) := (K5.out.mono (fun _ h => .inl h)).trans (KQ.out.mono (fun _ h => .inr h))
        refine PostC.okI HX4.out rfl (C4.out.frame KF.out (fun k hk => ?_) ?_) HND.out (R5.out.kept KQ.out ?_ ?_) ((KC.out.trans K5.out).fin KQ.out ?_)
        · have := HGL.out
          have := HQ2.out
          rcases hk with e | e <;> omega
        · have := HQE.out
          have := HQ2.out
          omega
        · have := HGL.out
          show ¬ rp = Q
          omega
        · have := HGL.out
          show ¬ g = Q
          omega
        · have := HQE.out
          omega
      · have HT := hide (takeS_bad R4.out hs)
        have HX4 : Hid (x = .bad 90 (tok Ts j).p) := by unfold Hid; rw [HX3.out, takeT_bad hs]; rfl
        generalize (tok Ts j).p = zp at *
        clear hs HX3
        go_wp2_with (go_at_call 75; refine HT.out.mono ?_; rintro e w6 ⟨he, x6⟩; unfold pan at he; subst he; have X6 := hide x6; clear x6)
        exact ⟨rfl, PostC.badI HX4.out rfl (KC.out.trans (Kept.of_below X6.out))⟩

  · have hb' : isT Ts 7 [40] i = false := by simpa using hb
    have HX2 : Hid (x = if (tok Ts i).k = 2 then .ok (.mk 3 (tok Ts i).t [] [] [] [] [] (tok Ts i).p) (i + 1)
        else if testAt Ts i = 0 then .bad 90 (tok Ts i).p
        else restP Ts f (.mk (testAt Ts i : Nat) [] [] [] [] [] [] (tok Ts i).p) (i + 1)) := by unfold Hid; rw [HX.out, if_neg hb]
    rw [hb'] at HS
    clear HX hb hb' HIH
    go_upto_region 6 with (go_at_call 143; refine HS.out.mono ?_; rintro e w1 ⟨rfl, x1⟩; have X1 := hide x1; clear x1)
    have R1 := hide (R0.out.below X1.out)
    have Q1 := hide ((X1.out.block Q (lt_of_block Q0.out)).trans Q0.out)
    have XA := hide (bt X0.out X1.out (Nat.le_refl _))
    have nQ : Q ≠ rp := by have := HGL.out; omega
    clear HS X1 R0 Q0 X0
    have HT := hide (token_any R1.out)
    unfold tkV at HT
    obtain ⟨z, hz⟩ : ∃ z, z = tok Ts i := ⟨_, rfl⟩
    rw [← hz] at HT HX2
    have HZ := hide hz
    clear hz
    go_upto_region 7 with (go_at_call 50; refine HT.out.mono ?_; rintro e w2 ⟨rfl, x2⟩; have X2 := hide x2; clear x2)
    have X3 : Hid (Below w2.heap.size w2 (w2.alloc (.cells #[.int .i64 z.k, .string ⟨z.t.toArray⟩, .int .i64 z.n, .int .i64 z.a, .int .i64 z.b, .int .i64 z.p] 49))) := al (Below.refl _ _) _
    have P3 := hide (heap_alloc_new w2 (.cells #[.int .i64 z.k, .string ⟨z.t.toArray⟩, .int .i64 z.n, .int .i64 z.a, .int .i64 z.b, .int .i64 z.p] 49))
    obtain ⟨P, hP⟩ : ∃ P, P = w2.heap.size := ⟨_, rfl⟩
    rw [← hP] at P3
    have XB := hide (bt XA.out (bt X2.out X3.out (Nat.le_refl _)) (Nat.le_refl _))
    have X23 := hide (bt X2.out X3.out (Nat.le_refl _))
    have R3 := hide (R1.out.below X23.out)
    have Q3 := hide ((X23.out.block Q (lt_of_block Q1.out)).trans Q1.out)
    have HQP : Hid (Q < P) := by have := X2.out.size; have := lt_of_block Q1.out; unfold Hid; omega
    rw [← hP]
    generalize w2.alloc (.cells #[.int .i64 z.k, .string ⟨z.t.toArray⟩, .int .i64 z.n, .int .i64 z.a, .int .i64 z.b, .int .i64 z.p] 49) = w3 at *
    clear hP X3 X2 XA R1 Q1 X23 HT
    have g0 : w3.cell? ⟨P, 0, none⟩ = some (.int .i64 z.k) := by rw [cell_of_row _ _ _ _ _ _ P3.out]; rfl
    by_cases hk : z.k = 2
    · have hk' : (z.k == 2) = true := by simpa using hk
      have HX3 : Hid (x = .ok (.mk 3 z.t [] [] [] [] [] z.p) (i + 1)) := by unfold Hid; rw [HX2.out, if_pos hk]
      have HN : Hid (i + 1 < Ts.length) := R3.out.next (by rw [← HZ.out, hk]; decide)
      clear hk HX2
      go_upto_region 8 with fail
      have R1 := hide R3.out
      have XA := hide XB.out
      clear R3 XB g0 hk'
      obtain ⟨_, c1⟩ := R1.out.two
      have f1 := frozen_of_row w3 rp 1 _ _ R1.out.blk
      have fw : IntKind.i64.wrap ((i : Int) + 1) = (i : Int) + 1 := by have := R1.out.few; have := HN.out; simp [IntKind.wrap, IntKind.bits, IntKind.signed]; omega
      go_upto_region 9 with fail
      clear c1 f1 fw
      have R2 := hide (R1.out.step HN.out)
      have K2 : Hid (Kept (fun k => k = rp) w3 (w3.setCell ⟨rp, 1, none⟩ (.int .i64 ((i : Int) + 1)))) := Kept.setCell (F := fun k => k = rp) (p := ⟨rp, 1, none⟩) (Kept.refl _ _) rfl _
      have KA := hide ((Kept.of_below (F := fun k => k = rp) XA.out).trans K2.out)
      have Q2 := hide ((K2.out.block Q (lt_of_block Q3.out) nQ).trans Q3.out)
      have nP : P ≠ rp := by have := HGL.out; have := HQP.out; omega
      have P2 := hide ((K2.out.block P (lt_of_block P3.out) nP).trans P3.out)
      clear R1 Q3 P3 K2 XA
      generalize w3.setCell ⟨rp, 1, none⟩ (.int .i64 ((i : Int) + 1)) = w4 at *
      have g1 : w4.cell? ⟨P, 1, none⟩ = some (.string ⟨z.t.toArray⟩) := by rw [cell_of_row _ _ _ _ _ _ P2.out]; rfl
      have g2 : w4.cell? ⟨P, 5, none⟩ = some (.int .i64 z.p) := by rw [cell_of_row _ _ _ _ _ _ P2.out]; rfl
      obtain ⟨⟨_, p0⟩, f0, ⟨_, p1⟩, f1, ⟨_, p2⟩, f2, ⟨_, p3⟩, f3, ⟨_, p4⟩, f4, ⟨_, p5⟩, f5, ⟨_, p6⟩, f6, ⟨_, p7⟩, f7, hsb, hsk⟩ := st8 Q2.out (.int .i64 3) (.string ⟨z.t.toArray⟩) (.string ⟨#[]⟩) (.slice none 0 0) (.slice none 0 0) (.slice none 0 0) (.slice none 0 0) (.int .i64 z.p)
      have HSB := hide hsb
      have KQ := hide hsk
      clear hsb hsk
      go_wp2
      clear p0 f0 p1 f1 p2 f2 p3 f3 p4 f4 p5 f5 p6 f6 p7 f7
      generalize ((((((((w4.setCell ⟨Q, 0, none⟩ (.int .i64 3)).setCell ⟨Q, 1, none⟩ (.string ⟨z.t.toArray⟩)).setCell ⟨Q, 2, none⟩ (.string ⟨#[]⟩)).setCell ⟨Q, 3, none⟩ (.slice none 0 0)).setCell ⟨Q, 4, none⟩ (.slice none 0 0)).setCell ⟨Q, 5, none⟩ (.slice none 0 0)).setCell ⟨Q, 6, none⟩ (.slice none 0 0)).setCell ⟨Q, 7, none⟩ (.int .i64 z.p)) = w9 at *
      obtain ⟨q0, q1, q2, q3, q4, q5, q6, q7⟩ := ld8 HSB.out
      refine bodyPost_ret (by simp [results, Tryz.results117, go_sem, q0, q1, q2, q3, q4, q5, q6, q7]; try rfl) rfl ?_
      refine PostC.okI HX3.out rfl (CtAt.leaf w9 _ 3 z.t [] z.p) List.nodup_nil (R2.out.kept KQ.out ?_ ?_) (KA.out.fin KQ.out ?_)
      · have := HGL.out
        show ¬ rp = Q
        omega
      · have := HGL.out
        show ¬ g = Q
        omega
      · have := HQE.out
        omega
    · have hk' : (z.k == 2) = false := by simpa using hk
      have HX3 : Hid (x = if testAt Ts i = 0 then .bad 90 z.p
        else restP Ts f (.mk (testAt Ts i : Nat) [] [] [] [] [] [] z.p) (i + 1)) := by unfold Hid; rw [HX2.out, if_neg hk]
      clear hk HX2
      go_upto_region 10 with fail
      clear g0 hk'
      have HT := hide (testKind_any R3.out)
      by_cases h0 : testAt Ts i = 0
      · rw [h0] at HT
        have HX4 : Hid (x = .bad 90 z.p) := by unfold Hid; rw [HX3.out, if_pos h0]
        have HRF := hide (fun V (y : Below w3.heap.size w3 V) => refuse_any (R3.out.below y) 90)
        rw [← HZ.out] at HRF
        clear h0 HX3
        go_wp2_with (first
          | (go_at_call 144; refine HT.out.mono ?_; rintro e w4 ⟨rfl, x4⟩; have X4 := hide x4; clear x4)
          | (go_at_call 52; refine (HRF.out _ X4.out).mono ?_; rintro e w6 ⟨he, x6⟩; unfold pan at he; subst he; have X6 := hide (bt X4.out x6 (Nat.le_refl _)); clear x6))
        exact ⟨rfl, PostC.badI HX4.out rfl (Kept.of_below (bt XB.out X6.out (Nat.le_refl _)))⟩
      · have HX4 : Hid (x = restP Ts f (.mk (testAt Ts i : Nat) [] [] [] [] [] [] z.p) (i + 1)) := by unfold Hid; rw [HX3.out, if_neg h0]
        have HK : Hid (testAt Ts i ≤ 12 ∧ isT Ts 1 (tWord (testAt Ts i)) i = true) := by
          rcases kindAt_le Ts tWord i 12 1 with h | ⟨h1, h2, h3⟩
          · exact absurd h h0
          · exact ⟨by unfold testAt; omega, h3⟩
        have HK1 : Hid ((tok Ts i).k = 1) := isT_kind HK.out.2
        have HKL := hide HK.out.1
        generalize testAt Ts i = m at *
        have hm : ((m : Int) == 0) = false := by simp; omega
        clear h0 HX3 HK
        go_upto_region 13 with (go_at_call 144; refine HT.out.mono ?_; rintro e w4 ⟨rfl, x4⟩; have X4 := hide x4; clear x4)
        clear hm
        have R4 := hide (R3.out.below X4.out)
        have Q4 := hide ((X4.out.block Q (lt_of_block Q3.out)).trans Q3.out)
        have XC := hide (bt XB.out X4.out (Nat.le_refl _))
        clear HT X4 R3 Q3 XB P3
        have HT := hide (takeR_ok R4.out HK1.out (by decide))
        unfold tkV at HT
        rw [← HZ.out] at HT
        have hf := fld4
        go_upto_region 14 with (go_at_call 74; refine HT.out.mono ?_; rintro e w5 ⟨rfl, r5, k5⟩; have R5 := hide r5; have K5 := hide k5; clear r5 k5)
        clear hf
        have Q5 := hide ((K5.out.block Q (lt_of_block Q4.out) nQ).trans Q4.out)
        have KD := hide ((Kept.of_below (F := fun k => k = rp) XC.out).trans K5.out)
        obtain ⟨cp, hcp⟩ : ∃ cp, cp = w5.heap.size := ⟨_, rfl⟩
        have X6 : Hid (Below w5.heap.size w5 (w5.alloc (.cells #[.int .i64 (m : Nat), .string ⟨#[]⟩, .string ⟨#[]⟩, .slice none 0 0, .slice none 0 0, .slice none 0 0, .slice none 0 0, .int .i64 z.p] 60))) := al (Below.refl _ _) _
        have P6 := hide (heap_alloc_new w5 (.cells #[.int .i64 (m : Nat), .string ⟨#[]⟩, .string ⟨#[]⟩, .slice none 0 0, .slice none 0 0, .slice none 0 0, .slice none 0 0, .int .i64 z.p] 60))
        have HCQ : Hid (Q < cp) := by have := lt_of_block Q5.out; unfold Hid; omega
        have R6 := hide (R5.out.below X6.out)
        have Q6 := hide ((X6.out.block Q (lt_of_block Q5.out)).trans Q5.out)
        rw [← hcp] at P6
        have HCP := hide hcp
        rw [← hcp]
        clear HT K5 R4 Q4 XC R5 Q5 hcp
        generalize w5.alloc (.cells #[.int .i64 (m : Nat), .string ⟨#[]⟩, .string ⟨#[]⟩, .slice none 0 0, .slice none 0 0, .slice none 0 0, .slice none 0 0, .int .i64 z.p] 60) = w6 at *
        have T6 : Hid (TcA w6 cp cp (.mk (m : Nat) [] [] [] [] [] [] z.p) (.slice none 0 0) (.slice none 0 0) (.slice none 0 0)) := ⟨P6.out, own_none _ _ _ _, own_none _ _ _ _, own_none _ _ _ _, rfl, Nat.le_refl _⟩
        have HN2 : Hid (i + 1 ≤ Ts.length) := by have := HLT.out; unfold Hid; omega
        have HRS := hide (rest_all (f := f) (by have := HKL.out; show ((m : Nat) : Int) ≤ 12; omega) T6.out R6.out rfl (restP_fw0 f _ (i + 1) (by have := HF.out; have := HLT.out; omega) HN2.out).ne)
        rw [← HX4.out] at HRS
        clear P6 T6
        go_wp2_with (fail)
        refine HRS.out.mono ?_
        intro e w7 hp
        cases hxa : x with
        | out => rw [hxa] at hp; exact absurd hp (fun h => h)
        | bad e0 p =>
          rw [hxa] at hp
          obtain ⟨he, l7⟩ := hp
          unfold pan at he
          subst he
          have L7 : LfK cp rp w5 w7 := (LfK.of_below X6.out).trans l7
          exact ⟨rfl, PostC.badI rfl rfl (KD.out.trans (L7.rp (by rw [HCP.out]; exact Nat.le_refl _)))⟩
        | ok c' j =>
          rw [hxa] at hp
          obtain ⟨rfl, ⟨v3, v4, v5, t7⟩, r7, l7⟩ := hp
          obtain ⟨a3, c3, e3, _⟩ := own_shape t7.o3
          obtain ⟨a4, c4, e4, _⟩ := own_shape t7.o4
          obtain ⟨a5, c5, e5, _⟩ := own_shape t7.o5
          subst e3
          subst e4
          subst e5
          have L7 : Hid (LfK cp rp w5 w7) := (LfK.of_below X6.out).trans l7
          have Q7 : Hid (w7.heap[Q]? = some (.cells #[.int .i64 0, .string ⟨#[]⟩, .string ⟨#[]⟩, .slice none 0 0, .slice none 0 0, .slice none 0 0, .slice none 0 0, .int .i64 0] 60 (0, 0))) := (l7.block Q (lt_of_block Q6.out) (fun hf => by
            rcases hf with e | ⟨h, _⟩
            · exact nQ e
            · have := HCQ.out; omega)).trans Q6.out
          have T7 := hide t7
          have R7 := hide r7
          have HXA := hide hxa
          clear HX4 hxa t7 r7 l7 HRS R6 Q6 X6
          obtain ⟨q0, q1, q2, q3, q4, q5, q6, q7⟩ := ld8 T7.out.blk
          obtain ⟨⟨_, p0⟩, f0, ⟨_, p1⟩, f1, ⟨_, p2⟩, f2, ⟨_, p3⟩, f3, ⟨_, p4⟩, f4, ⟨_, p5⟩, f5, ⟨_, p6⟩, f6, ⟨_, p7⟩, f7, hsb, hsk⟩ := st8 Q7.out (.int .i64 c'.k) (.string ⟨c'.nm.toArray⟩) (.string ⟨c'.tx.toArray⟩) (.slice a3 c'.pre.length c3) (.slice a4 c'.sp.length c4) (.slice a5 c'.ns.length c5) (.slice none 0 0) (.int .i64 c'.p)
          have HSB := hide hsb
          have KQ := hide hsk
          clear hsb hsk
          go_wp2
          clear q0 q1 q2 q3 q4 q5 q6 q7
          clear p0 f0 p1 f1 p2 f2 p3 f3 p4 f4 p5 f5 p6 f6 p7 f7
          generalize ((((((((w7.setCell ⟨Q, 0, none⟩ (.int .i64 c'.k)).setCell ⟨Q, 1, none⟩ (.string ⟨c'.nm.toArray⟩)).setCell ⟨Q, 2, none⟩ (.string ⟨c'.tx.toArray⟩)).setCell ⟨Q, 3, none⟩ (.slice a3 c'.pre.length c3)).setCell ⟨Q, 4, none⟩ (.slice a4 c'.sp.length c4)).setCell ⟨Q, 5, none⟩ (.slice a5 c'.ns.length c5)).setCell ⟨Q, 6, none⟩ (.slice none 0 0)).setCell ⟨Q, 7, none⟩ (.int .i64 c'.p)) = w9 at *
          obtain ⟨q0, q1, q2, q3, q4, q5, q6, q7⟩ := ld8 HSB.out
          refine bodyPost_ret (by simp [results, Tryz.results117, go_sem, q0, q1, q2, q3, q4, q5, q6, q7]; try rfl) rfl ?_
          refine PostC.okI (by first | exact HXA.out | rfl) rfl (T7.out.ct.frame KQ.out (fun k hk => ?_) ?_) T7.out.nodup (R7.out.kept KQ.out ?_ ?_) ((KD.out.trans (L7.out.rp (by rw [HCP.out]; exact Nat.le_refl _))).fin KQ.out ?_)
          · have := HCQ.out
            rw [hk]
            omega
          · have := HCQ.out
            have := HQE.out
            omega
          · have := HGL.out
            show ¬ rp = Q
            omega
          · have := HGL.out
            show ¬ g = Q
            omega
          · have := HQE.out
            omega

end Go.Proofs.YtlmhofjiobmodaaGreatDoor
