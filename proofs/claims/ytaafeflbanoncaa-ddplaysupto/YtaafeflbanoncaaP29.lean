/-
  The table with its rows; add by its contract. No condition.
-/
import Derived.Test.YtaafeflbanoncaaP28
namespace Go.Proofs.Ytaafeflbanoncaa
open Go.RowKit Go.Lib Go.Maps

theorem Try.info36 : (Try.prog.info? 36).map (fun i => (i.zero, i.size, i.bytes)) = some (some (.slice none 0 0), 1, 24) := by kernel_rfl
theorem bools_eq {A C : List Bool} {n : Nat} (ha : A.length = n) (hc : C.length = n) : (∀ m, m < n → A.getD m false = C.getD m false) ↔ A = C := by
  constructor
  · intro h
    apply List.ext_getElem (by omega)
    intro i h1 h2
    have := h i (by omega)
    rw [List.getD_eq_getElem?_getD, List.getD_eq_getElem?_getD, List.getElem?_eq_getElem h1, List.getElem?_eq_getElem h2] at this
    exact this
  · intro h m _
    rw [h]
/-- The table: refs, and what each says. -/
structure TB (w : World) (B tb : Nat) (S : List Int) (F : List Int) (R : List (List Bool)) (P : Nat → Prop) (sb sc : Nat) (fv sv : Value) (V : List Value) : Prop where
  blk : TBk w tb S sb sc (prd S) fv sv
  fo : w.ownsRow B 3 1 fv F.length (zC F)
  so : w.ownsRow B 36 1 sv V.length V
  vl : V.length = R.length
  row : ∀ i, i < R.length → ∃ b cap, V[i]? = some (.slice (some ⟨b, 0, none⟩) (R.getD i []).length cap) ∧ BBk w b (R.getD i []) ∧ ¬ P b
  bt : B ≤ tb
  ptb : ¬ P tb
  psb : ¬ P sb
  pf : ∀ k, fv.ownBlock = some k → ¬ P k ∧ k ≠ sb
  ps : ∀ k, sv.ownBlock = some k → ¬ P k
/-- .. over an arena. -/
structure TI (w : World) (B tb a : Nat) (S : List Int) (M : Int) (N : List Nd) (P : Nat → Prop) (F : List Int) (R : List (List Bool)) (sb sc : Nat) (fv sv : Value) (V : List Value) : Prop where
  tb : TB w B tb S F R P sb sc fv sv V
  ca : CA w a S M N 8192 P
  pb : ∀ k, P k → B ≤ k
  fl : F.length = R.length
  says : ∀ i, i < R.length → hasR N (F.getD i 0) ∧ R.getD i [] = rowR S N (F.getD i 0)
section
variable {w w' : World} {B tb a : Nat} {S : List Int} {M : Int} {N T : List Nd} {P P' : Nat → Prop} {F : List Int} {R : List (List Bool)} {sb sc : Nat} {fv sv : Value} {V : List Value}
theorem TB.kept {K : Nat → Prop} (h : TB w B tb S F R P sb sc fv sv V) (k : Kept K w w') (hK : ∀ b, b < w.heap.size → ¬ P b → ¬ K b) (hP : ∀ b, b < w.heap.size → ¬ P b → ¬ P' b) : TB w' B tb S F R P' sb sc fv sv V := by
  have htb := lt_of_block h.blk.1
  have hsb := h.blk.2.lt
  refine ⟨⟨(k.block _ htb (hK _ htb h.ptb)).trans h.blk.1, h.blk.2.kept k (hK _ hsb h.psb)⟩, own_kept h.fo k (fun b hb => hK b (World.ownsRow.lt h.fo b hb).2 (h.pf b hb).1), own_kept h.so k (fun b hb => hK b (World.ownsRow.lt h.so b hb).2 (h.ps b hb)), h.vl, fun i hi => ?_, h.bt, hP _ htb h.ptb, hP _ hsb h.psb, fun b hb => ⟨hP b (World.ownsRow.lt h.fo b hb).2 (h.pf b hb).1, (h.pf b hb).2⟩, fun b hb => hP b (World.ownsRow.lt h.so b hb).2 (h.ps b hb)⟩
  obtain ⟨b, cap, h1, h2, h3⟩ := h.row i hi
  exact ⟨b, cap, h1, h2.kept k (hK b h2.lt h3), hP b h2.lt h3⟩
theorem TI.below (h : TI w B tb a S M N P F R sb sc fv sv V) (x : Below w.heap.size w w') : TI w' B tb a S M N P F R sb sc fv sv V :=
  ⟨h.tb.kept (K := fun _ => False) (Kept.of_below x) (fun _ _ _ h => h) (fun _ _ h => h), h.ca.below x, h.pb, h.fl, h.says⟩
/-- An operation on the arena. -/
theorem TI.oped (h : TI w B tb a S M N P F R sb sc fv sv V) (hB : B ≤ w.heap.size) (k : Kept P w w') (hca : CA w' a S M (N ++ T) 8192 P') (hP : Gw w P P') : TI w' B tb a S M (N ++ T) P' F R sb sc fv sv V :=
  ⟨h.tb.kept k (fun _ _ h => h) (fun b hb hp => hP.not hb hp), hca, fun b hb => (hP b hb).elim (h.pb b) (Nat.le_trans hB), h.fl, fun i hi => ⟨hasR_app (h.says i hi).1, by rw [rowR_app h.ca.ok (h.says i hi).1]; exact (h.says i hi).2⟩⟩
/-- A row more: t.f. -/
theorem getD_snoc {α : Type} (L : List α) (x d : α) (i : Nat) : (L ++ [x]).getD i d = if i < L.length then L.getD i d else if i = L.length then x else d := by
  rw [List.getD_eq_getElem?_getD, List.getD_eq_getElem?_getD]
  by_cases h : i < L.length
  · rw [if_pos h, List.getElem?_append_left h]
  · rw [if_neg h, List.getElem?_append_right (by omega)]
    by_cases e : i = L.length
    · rw [if_pos e, e, Nat.sub_self]; rfl
    · rw [if_neg e, List.getElem?_eq_none (by simp; omega)]; rfl
theorem own_tyk {w : World} {B size n : Nat} {e : TypeId} {v : Value} {xs : List Value} (h : w.ownsRow B e size v n xs) {k : Nat} (hk : v.ownBlock = some k) : ∃ cs, w.heap[k]? = some (.cells cs e (0, 0)) := by
  rcases h.2 with ⟨rfl, _⟩ | ⟨g, cap, cur, rfl, hb, hh, h3, h4, h5, h6⟩
  · cases hk
  · have e : g = k := Option.some.inj hk
    exact ⟨cur, by rw [← e]; exact hh⟩
theorem app_new {w w' : World} {v v' : Value} (h : AppAt w w' v v') {k : Nat} (hk : v'.ownBlock = some k) : v.ownBlock = some k ∨ w.heap.size ≤ k := by
  rcases h with ⟨g, a, b, _⟩ | ⟨_, b⟩
  · rw [b] at hk; exact .inl (a.trans hk)
  · exact .inr (b k hk)
theorem ty_ne {w : World} {b b' : Nat} {cs cs' : Array Value} {t t' : TypeId} {f f' : Nat × Nat} (h : w.heap[b]? = some (.cells cs t f)) (h' : w.heap[b']? = some (.cells cs' t' f')) (hne : t ≠ t') : b ≠ b' := fun e => by
  rw [e, h'] at h
  simp only [Option.some.injEq, Obj.cells.injEq] at h
  exact hne h.2.1.symm
theorem TB.own3 (h : TB w B tb S F R P sb sc fv sv V) : sb ≠ tb ∧ (∀ k, fv.ownBlock = some k → k ≠ tb) ∧ (∀ k, sv.ownBlock = some k → k ≠ tb ∧ k ≠ sb ∧ fv.ownBlock ≠ some k) := by
  obtain ⟨zs, hz, _⟩ := h.blk.2
  refine ⟨ty_ne hz h.blk.1 (by decide), fun k hk => ?_, fun k hk => ?_⟩
  · obtain ⟨cs, h1⟩ := own_tyk h.fo hk
    exact ty_ne h1 h.blk.1 (by decide)
  · obtain ⟨cs, h1⟩ := own_tyk h.so hk
    refine ⟨ty_ne h1 h.blk.1 (by decide), ty_ne h1 hz (by decide), fun hf => ?_⟩
    obtain ⟨cs', h2⟩ := own_tyk h.fo hf
    exact ty_ne h1 h2 (by decide) rfl
/-- One ref more. -/
theorem TB.addF {w4 w5 : World} {f : Int} {v4 : Value} (h : TB w B tb S F R P sb sc fv sv V) (hPl : ∀ k, P k → k < w.heap.size) (hB : B ≤ w.heap.size) (o4 : w4.ownsRow B 3 1 v4 (F.length + 1) (zC F ++ [.int .i64 f])) (hK : Kept (fun k => fv.ownBlock = some k) w w4) (hL : ∀ k, v4.ownBlock = some k → fv.ownBlock = some k ∨ w.heap.size ≤ k) (e5 : w5 = w4.setCell ⟨tb, 2, none⟩ v4) :
    TB w5 B tb S (F ++ [f]) R P sb sc v4 sv V ∧ Kept (fun k => fv.ownBlock = some k ∨ k = tb) w w5 ∧ Below B w w5 ∧ ∀ b L, BBk w b L → BBk w5 b L := by
  obtain ⟨n1, n2, n3⟩ := h.own3
  have htb := lt_of_block h.blk.1
  have ntb : ∀ k, fv.ownBlock = some k → ¬ k = tb := n2
  have k5 : Kept (fun k => k = tb) w4 w5 := by rw [e5]; exact (Kept.refl (fun b => b = tb) w4).setCell (p := ⟨tb, 2, none⟩) rfl _
  have kk : Kept (fun k => fv.ownBlock = some k ∨ k = tb) w w5 := (hK.mono (fun _ h => .inl h)).trans_new k5 (fun _ _ e => .inr e)
  have b4 : w4.heap[tb]? = some (.cells #[.slice (some ⟨sb, 0, none⟩) S.length sc, .int .i64 (prd S : Int), fv, sv] 49 (0, 0)) := (hK.block tb htb (fun e => n2 tb e rfl)).trans h.blk.1
  have hsb : ¬ (fv.ownBlock = some sb ∨ sb = tb) := fun e => e.elim (fun e => (h.pf sb e).2 rfl) n1
  have v4t : ∀ k, v4.ownBlock = some k → k ≠ tb := fun k hk e => (hL k hk).elim (fun h1 => n2 k h1 e) (fun h1 => by omega)
  refine ⟨⟨⟨?_, h.blk.2.kept kk hsb⟩, ?_, own_kept h.so kk (fun b hb e => e.elim (n3 b hb).2.2 (n3 b hb).1), h.vl, fun i hi => ?_, h.bt, h.ptb, h.psb, fun k hk => ?_, h.ps⟩, kk, kk.below hB (fun b hb => hb.elim (fun h1 => (World.ownsRow.lt h.fo b h1).1) (fun h1 => h1 ▸ h.bt)), fun b L hb => hb.kept kk (fun e => by
    obtain ⟨cs, hc, _⟩ := hb
    rcases e with e | e
    · obtain ⟨cs', h4⟩ := own_tyk h.fo e
      exact ty_ne hc h4 (by decide) rfl
    · exact ty_ne hc h.blk.1 (by decide) e)⟩
  · rw [e5, block_setCell b4 2]; rfl
  · have := own_kept o4 k5 (fun b hb e => v4t b hb e)
    rw [List.length_append, zC_snoc]
    exact this
  · obtain ⟨b, cap, h1, h2, h3⟩ := h.row i hi
    refine ⟨b, cap, h1, h2.kept kk (fun e => ?_), h3⟩
    obtain ⟨cs, hc, _⟩ := h2
    rcases e with e | e
    · obtain ⟨cs', h4⟩ := own_tyk h.fo e
      exact ty_ne hc h4 (by decide) rfl
    · exact ty_ne hc h.blk.1 (by decide) e
  · refine ⟨fun hp => (hL k hk).elim (fun h1 => (h.pf k h1).1 hp) (fun h1 => by have := hPl k hp; omega), fun e => (hL k hk).elim (fun h1 => (h.pf k h1).2 e) (fun h1 => by have := h.blk.2.lt; omega)⟩
/-- One row more. -/
theorem TB.addR {w4 w5 : World} {rb rc : Nat} {L : List Bool} {v4 : Value} (h : TB w B tb S F R P sb sc fv sv V) (hPl : ∀ k, P k → k < w.heap.size) (hB : B ≤ w.heap.size) (hr : BBk w rb L) (hrp : ¬ P rb) (o4 : w4.ownsRow B 36 1 v4 (V.length + 1) (V ++ [.slice (some ⟨rb, 0, none⟩) L.length rc])) (hK : Kept (fun k => sv.ownBlock = some k) w w4) (hL : ∀ k, v4.ownBlock = some k → sv.ownBlock = some k ∨ w.heap.size ≤ k) (e5 : w5 = w4.setCell ⟨tb, 3, none⟩ v4) :
    TB w5 B tb S F (R ++ [L]) P sb sc fv v4 (V ++ [.slice (some ⟨rb, 0, none⟩) L.length rc]) ∧ Kept (fun k => sv.ownBlock = some k ∨ k = tb) w w5 ∧ Below B w w5 ∧ ∀ b L, BBk w b L → BBk w5 b L := by
  obtain ⟨n1, n2, n3⟩ := h.own3
  have htb := lt_of_block h.blk.1
  have k5 : Kept (fun k => k = tb) w4 w5 := by rw [e5]; exact (Kept.refl (fun b => b = tb) w4).setCell (p := ⟨tb, 3, none⟩) rfl _
  have kk : Kept (fun k => sv.ownBlock = some k ∨ k = tb) w w5 := (hK.mono (fun _ h => .inl h)).trans_new k5 (fun _ _ e => .inr e)
  have b4 : w4.heap[tb]? = some (.cells #[.slice (some ⟨sb, 0, none⟩) S.length sc, .int .i64 (prd S : Int), fv, sv] 49 (0, 0)) := (hK.block tb htb (fun e => (n3 tb e).1 rfl)).trans h.blk.1
  have hsb : ¬ (sv.ownBlock = some sb ∨ sb = tb) := fun e => e.elim (fun e => (n3 sb e).2.1 rfl) n1
  have v4t : ∀ k, v4.ownBlock = some k → k ≠ tb := fun k hk e => (hL k hk).elim (fun h1 => (n3 k h1).1 e) (fun h1 => by omega)
  have hbb : ∀ b L, BBk w b L → BBk w5 b L := fun b L hb => hb.kept kk (fun e => by
    obtain ⟨cs, hc, _⟩ := hb
    rcases e with e | e
    · obtain ⟨cs', h4⟩ := own_tyk h.so e
      exact ty_ne hc h4 (by decide) rfl
    · exact ty_ne hc h.blk.1 (by decide) e)
  refine ⟨⟨⟨?_, h.blk.2.kept kk hsb⟩, own_kept h.fo kk (fun b hb e => e.elim (fun h1 => (n3 b h1).2.2 hb) (n2 b hb)), ?_, by rw [List.length_append, List.length_append, h.vl]; rfl, fun i hi => ?_, h.bt, h.ptb, h.psb, h.pf, fun k hk hp => (hL k hk).elim (fun h1 => h.ps k h1 hp) (fun h1 => by have := hPl k hp; omega)⟩, kk, kk.below hB (fun b hb => hb.elim (fun h1 => (World.ownsRow.lt h.so b h1).1) (fun h1 => h1 ▸ h.bt)), hbb⟩
  · rw [e5, block_setCell b4 3]; rfl
  · have := own_kept o4 k5 (fun b hb e => v4t b hb e)
    rw [List.length_append]
    exact this
  · rw [List.length_append, List.length_singleton] at hi
    rw [getD_snoc]
    by_cases hlt : i < R.length
    · rw [if_pos hlt]
      obtain ⟨b, cap, h1, h2, h3⟩ := h.row i hlt
      exact ⟨b, cap, by rw [List.getElem?_append_left (by rw [h.vl]; exact hlt)]; exact h1, hbb b _ h2, h3⟩
    · rw [if_neg hlt, if_pos (by omega)]
      refine ⟨rb, rc, ?_, hbb rb _ hr, hrp⟩
      rw [List.getElem?_append_right (by rw [h.vl]; omega), h.vl, show i - R.length = 0 by omega]
      rfl
set_option maxRecDepth 100000 in
set_option maxHeartbeats 4000000 in
theorem add_ok {f : Int} {rb rc : Nat} (h : TI w B tb a S M N P F R sb sc fv sv V) (hB : B ≤ w.heap.size) (hR : R.length ≤ 5000000000000) (hpr : prd S ≤ 100000) (hf : hasR N f) (hrow : BBk w rb (rowR S N f)) (hrp : ¬ P rb) :
    Calls Try.prog 16 #[.pointer (some ⟨tb, 0, none⟩), .pointer (some ⟨a, 0, none⟩), .int .i64 f, .slice (some ⟨rb, 0, none⟩) (prd S) rc] w fun e w' => e = .returned (.bool true) ∧ ∃ fv' sv' V', TI w' B tb a S M N P (F ++ [f]) (R ++ [rowR S N f]) sb sc fv' sv' V' ∧ Below B w w' ∧ ∀ b L, BBk w b L → BBk w' b L := by
  obtain ⟨i3, hi3, hz30, hz31, hz32⟩ := info_parts Try.info3
  obtain ⟨i36, hi36, hz360, hz361, hz362⟩ := info_parts Try.info36
  have HH := hide h
  have HF := hide hf
  have HRW := hide hrow
  have HRP := hide hrp
  have hok := h.ca.ok
  have HOK := hide hok
  have HRN : Hid ((rowR S N f).length = prd S) := rowP_length
  clear h hf hrow hrp hok
  go_enter Try.func16, Try.ntmps16
  go_upto_block 0 with fail
  go_cut [] (fun wx => Hid (Below w.heap.size w wx))
  case first =>
    go_wp2
    go_loopw [9] (fun x wr => ∃ k : Nat, k ≤ prd S ∧ x = .int .i64 k ∧ Hid (Below w.heap.size w wr)) (fun x _ => prd S - (RowKit.intOf x).toNat)
    case atStart => exact ⟨0, Nat.zero_le _, rfl, Below.refl _ _⟩
    case round =>
      obtain ⟨k, hk, rfl, HQ⟩ := hrel
      have HI := hide (HH.out.below HQ.out)
      obtain ⟨t0, t1, t2, t3⟩ := HI.out.tb.blk.cells
      by_cases hlt : k < prd S
      · have hlt' : (k : Int) < (prd S : Int) := by omega
        have PT := hide (point_any (n := k) HI.out.tb.blk HOK.out.sz (by omega))
        have q0 := (HRW.out.below HQ.out).cell (i := k) (by rw [HRN.out]; exact hlt)
        unfold rowR at q0
        rw [rowP_get hlt] at q0
        have EV : Hid (∀ W g c, Below wr.heap.size wr W → ZBk W g (pnL S k) → Calls Try.prog 31 #[.pointer (some ⟨a, 0, none⟩), .int .i64 f, .slice (some ⟨g, 0, none⟩) S.length c] W fun e w' => e = .returned (.tuple #[.bool (sayR N (ptf (pnL S k)) f), .int .i64 0]) ∧ Below W.heap.size W w') := fun W g c x z => by
          have := eval_ok (cap := c) (HI.out.ca.below x) HF.out (pnL_ptl S HOK.out.sz.pos k) z.at
          rwa [pnL_length] at this
        obtain ⟨b, hb⟩ : ∃ b, sayR N (ptf (pnL S k)) f = b := ⟨_, rfl⟩
        rw [hb] at q0 EV
        have hbb : (b != b) = false := by simp
        clear hb
        go_wp2_with (first
          | (go_at_call 46; refine PT.out.mono ?_; rintro e w2 ⟨g, c, rfl, hg, z2, x2⟩; have X2 := hide x2; have Z2 := hide z2; clear hg z2 x2)
          | (go_at_call 31; refine (EV.out _ _ _ X2.out Z2.out).mono ?_; rintro e w3 ⟨rfl, x3⟩; have X3 := hide (bt X2.out x3 (Nat.le_refl _)); have q3 := (X3.out.cell (p := ⟨rb, k, none⟩) (by exact Nat.lt_of_lt_of_le HRW.out.lt HQ.out.size)).trans q0; clear x3))
        have XN := hide (bt HQ.out X3.out (Nat.le_refl _))
        go_roundw
        case rel => exact ⟨k + 1, by omega, by go_num, XN⟩
        case measure => simp [RowKit.intOf]; omega
      · have hlt' : ¬ (k : Int) < (prd S : Int) := by omega
        go_wp2
        go_meet
        exact HQ
  have X1 := hcut
  clear hcut
  obtain ⟨w1, hw1⟩ : ∃ w1, w1 = wc := ⟨_, rfl⟩
  subst hw1
  have H1 := hide (HH.out.below X1.out)
  have RW1 := hide (HRW.out.below X1.out)
  go_upto_block 2 with fail
  go_cut [] (fun wx => Hid (Below w1.heap.size w1 wx))
  case first =>
    go_wp2
    go_loopw [12] (fun x wr => ∃ i : Nat, i ≤ R.length ∧ x = .int .i64 i ∧ Hid (Below w1.heap.size w1 wr)) (fun x _ => R.length - (RowKit.intOf x).toNat)
    case atStart => exact ⟨0, Nat.zero_le _, rfl, Below.refl _ _⟩
    case round =>
      obtain ⟨i, hi, rfl, HQ⟩ := hrel
      have HI := hide (H1.out.below HQ.out)
      obtain ⟨t0, t1, t2, t3⟩ := HI.out.tb.blk.cells
      obtain ⟨fa, fc, hfv, hfp⟩ := own_shape HI.out.tb.fo
      rw [HI.out.fl] at hfv hfp
      obtain ⟨sa, sc', hsv, hsp⟩ := own_shape HI.out.tb.so
      rw [HI.out.tb.vl] at hsv hsp
      subst hfv hsv
      by_cases hlt : i < R.length
      · have hlt' : (i : Int) < (R.length : Int) := by omega
        obtain ⟨fb, rfl⟩ := hfp (by omega)
        obtain ⟨sb2, rfl⟩ := hsp (by omega)
        obtain ⟨rbi, rci, hV, hRB, hRP⟩ := HI.out.tb.row i hlt
        obtain ⟨hsy, hRR⟩ := HI.out.says i hlt
        have hfc : wr.cell? ⟨fb, i, none⟩ = some (.int .i64 (F.getD i 0)) := by
          have fo := HI.out.tb.fo
          rw [HI.out.fl] at fo
          have h1 := World.ownsRow.cellAt fo i (by omega)
          rw [zC_get F (by rw [HI.out.fl]; exact hlt)] at h1
          exact h1
        have hsc : wr.cell? ⟨sb2, i, none⟩ = some (.slice (some ⟨rbi, 0, none⟩) (R.getD i []).length rci) := by
          have so := HI.out.tb.so
          rw [HI.out.tb.vl] at so
          exact (World.ownsRow.cellAt so i (by omega)).trans hV
        have hsl : Hid (sb2 < wr.heap.size) := (World.ownsRow.lt HI.out.tb.so sb2 rfl).2
        have hrl : (R.getD i []).length = prd S := by rw [hRR]; exact rowP_length
        rw [hrl] at hsc
        have HRB := hide hRB
        have HRL := hide hrl
        have HCN : Hid (decide (R.getD i [] = rowR S N f) = (F.getD i 0 == f)) := by
          unfold Hid
          rw [hRR]
          by_cases e : F.getD i 0 = f
          · rw [e]; simp
          · rw [decide_eq_false (fun h => e (rowR_inj HOK.out hsy HF.out h))]
            exact (beq_eq_false_iff_ne.2 e).symm
        generalize F.getD i 0 = fi at *
        generalize hRi : R.getD i [] = Ri at *
        clear hV hRB hsy hRR hrl hfp hsp hRi hRP
        go_upto_block 4 with fail
        go_cut [13] (fun v wx => v = .bool (decide (Ri = rowR S N f)) ∧ Hid (Below wr.heap.size wr wx))
        case first =>
          go_wp2
          go_loopw [13, 14] (fun v x wz => ∃ k : Nat, k ≤ prd S ∧ x = .int .i64 k ∧ (∃ al : Bool, v = .bool al ∧ Hid (al = true ↔ ∀ m, m < k → Ri.getD m false = (rowR S N f).getD m false)) ∧ Hid (Below wr.heap.size wr wz)) (fun _ x _ => prd S - (RowKit.intOf x).toNat)
          case atStart => exact ⟨0, Nat.zero_le _, rfl, ⟨true, rfl, ⟨fun _ m hm => by omega, fun _ => rfl⟩⟩, Below.refl _ _⟩
          case round =>
            obtain ⟨k, hk, rfl, ⟨al, rfl, HAL⟩, HZ⟩ := hrel
            obtain ⟨u0, u1, u2, u3⟩ := (HI.out.below HZ.out).tb.blk.cells
            by_cases hkl : k < prd S
            · have hkl' : (k : Int) < (prd S : Int) := by omega
              have p1 := (HRB.out.below HZ.out).cell (i := k) (by rw [HRL.out]; exact hkl)
              have p2 := (RW1.out.below (bt HQ.out HZ.out (Nat.le_refl _))).cell (i := k) (by rw [HRN.out]; exact hkl)
              have p3 := (HZ.out.cell (p := ⟨sb2, i, none⟩) hsl.out).trans hsc
              have NXT : Hid (∀ b : Bool, (b = true ↔ al = true ∧ Ri.getD k false = (rowR S N f).getD k false) → (b = true ↔ ∀ m, m < k + 1 → Ri.getD m false = (rowR S N f).getD m false)) := fun b hb => by
                rw [hb, HAL.out]
                constructor
                · rintro ⟨h1, h2⟩ m hm
                  rcases Nat.lt_or_ge m k with h | h
                  · exact h1 m h
                  · obtain rfl : m = k := by omega
                    exact h2
                · intro h1
                  exact ⟨fun m hm => h1 m (by omega), h1 k (by omega)⟩
              clear HAL
              generalize Ri.getD k false = x at *
              generalize (rowR S N f).getD k false = y at *
              cases al with
              | false =>
                have NX2 := hide (NXT.out false ⟨fun h => Bool.noConfusion h, fun h => Bool.noConfusion h.1⟩)
                clear NXT
                go_upto_region 14 with fail
                go_quiet (fail)
                go_wp2
                go_roundw
                case rel => exact ⟨k + 1, by omega, by go_num, ⟨_, rfl, NX2⟩, below_drewN HZ.out _⟩
                case measure => simp [RowKit.intOf]; omega
              | true =>
                have NX2 := hide (NXT.out (x == y) ⟨fun h => ⟨rfl, by simpa using h⟩, fun h => by simpa using h.2⟩)
                clear NXT
                go_upto_region 14 with fail
                go_quiet (fail)
                go_wp2
                go_roundw
                case rel => exact ⟨k + 1, by omega, by go_num, ⟨_, rfl, NX2⟩, below_drewN HZ.out _⟩
                case measure => simp [RowKit.intOf]; omega
            · have hkl' : ¬ (k : Int) < (prd S : Int) := by omega
              obtain rfl : k = prd S := by omega
              have HD : Hid (al = decide (Ri = rowR S N f)) := by
                have h1 := HAL.out
                rw [bools_eq HRL.out HRN.out] at h1
                unfold Hid
                cases al
                · rw [decide_eq_false (fun h => Bool.noConfusion (h1.2 h))]
                · rw [decide_eq_true (h1.1 rfl)]
              go_wp2
              go_meet
              exact ⟨by rw [HD.out], HZ⟩
        obtain ⟨hv, HZ⟩ := hcut
        rw [HCN.out] at hv
        obtain ⟨w2, hw2⟩ : ∃ w2, w2 = wc := ⟨_, rfl⟩
        subst hw2
        have X2 := hide (bt HQ.out HZ.out (Nat.le_refl _))
        obtain ⟨u0, u1, u2, u3⟩ := (HI.out.below HZ.out).tb.blk.cells
        have p4 := (HZ.out.cell (p := ⟨fb, i, none⟩) (World.ownsRow.lt HI.out.tb.fo fb rfl).2).trans hfc
        clear HCN t0 t1 t2 t3 hfc hsc
        by_cases e : fi = f
        · subst e
          have e1 : (fi == fi) = true := by simp
          rw [e1] at hv
          subst hv
          go_wp2
          go_roundw
          case rel => exact ⟨i + 1, by omega, by go_num, X2⟩
          case measure => simp [RowKit.intOf]; omega
        · have e1 : (fi == f) = false := beq_eq_false_iff_ne.2 e
          rw [e1] at hv
          subst hv
          go_wp2
          go_roundw
          case rel => exact ⟨i + 1, by omega, by go_num, X2⟩
          case measure => simp [RowKit.intOf]; omega
      · have hlt' : ¬ (i : Int) < (R.length : Int) := by omega
        go_wp2
        go_meet
        exact HQ
  have X2 := hcut
  clear hcut
  obtain ⟨w2, hw2⟩ : ∃ w2, w2 = wc := ⟨_, rfl⟩
  subst hw2
  have H2 := hide (H1.out.below X2.out)
  have RW2 := hide (RW1.out.below X2.out)
  have X02 := hide (bt X1.out X2.out (Nat.le_refl _))
  clear H1 RW1
  have hB2 : B ≤ w2.heap.size := Nat.le_trans hB X02.out.size
  obtain ⟨t0, t1, t2, t3⟩ := H2.out.tb.blk.cells
  obtain ⟨fa, fc, hfv, hfp⟩ := own_shape H2.out.tb.fo
  have hfl := H2.out.fl
  subst hfv
  have y3 : Below w2.heap.size w2 (w2.alloc (.cells #[.int .i64 f] 3)) := al (Below.refl _ _) _
  have tf2 := frozen_of_row w2 tb 2 _ _ H2.out.tb.blk.1
  have HFL := hide hfl
  have Y3 := hide y3
  clear hfp hfl y3
  have hFl : F.length ≤ 5000000000000 := by rw [HFL.out]; exact hR
  go_upto_region 18 with (at_builtin; refine wpList_append_view rfl (.tmp 92) (.tmp 94) 22 rfl B 3 i3 (.int .i64 0) 1 8 Try.underlying22 hi3 hz30 hz31 hz32 rfl (by decide) _ F.length (zC F) rfl (own_below H2.out.tb.fo Y3.out) ⟨w2.heap.size, 0, none⟩ 1 1 [.int .i64 f] rfl rfl (one_new w2 _ _) (by simp [Value.oneCell']) (by decide) (by unfold maxLen; omega) (by omega) (Nat.le_trans hB2 Y3.out.size) ?_; intro v4 w4 h1 h2; obtain ⟨ao4, cap4, hv4, _⟩ := own_shape h1; subst hv4; have O4 := hide h1; have A4 := hide h2; have K4 := hide ((Kept.of_below (F := fun k => (Value.slice fa F.length fc).ownBlock = some k) Y3.out).trans (appK h2)); have b4 := (K4.out.block tb (lt_of_block H2.out.tb.blk.1) (fun e => H2.out.tb.own3.2.1 tb e rfl)).trans H2.out.tb.blk.1; have c4 : w4.cell? ⟨tb, 2, none⟩ = some (.slice fa F.length fc) := (by rw [cell_of_row w4 tb _ _ _ _ b4]; rfl); have f4 := frozen_of_row w4 tb 2 _ _ b4; clear h1 h2 b4)
  obtain ⟨T5, K5, B5, Q5⟩ := TB.addF H2.out.tb (fun k hk => H2.out.ca.plt hk) hB2 O4.out K4.out (fun k hk => (app_new A4.out hk).imp id (Nat.le_trans Y3.out.size)) rfl
  have HT5 := hide T5
  have HK5 := hide K5
  have HB5 := hide B5
  have HQ5 := hide Q5
  clear T5 K5 B5 Q5 c4 f4 t0 t1 t2 t3 tf2 O4 A4 K4
  generalize w4.setCell ⟨tb, 2, none⟩ (.slice ao4 (F.length + 1) cap4) = w5 at *
  have CA5 : Hid (CA w5 a S M N 8192 P) := H2.out.ca.kept HK5.out (fun b hb e => e.elim (fun h1 => (H2.out.tb.pf b h1).1 hb) (fun h1 => H2.out.tb.ptb (h1 ▸ hb)))
  have RW5 : Hid (BBk w5 rb (rowR S N f)) := RW2.out.kept HK5.out (fun e => by
    obtain ⟨cs, hc, _⟩ := RW2.out
    rcases e with e | e
    · obtain ⟨cs', h4⟩ := own_tyk H2.out.tb.fo e
      exact ty_ne hc h4 (by decide) rfl
    · exact ty_ne hc H2.out.tb.blk.1 (by decide) e)
  obtain ⟨t0, t1, t2, t3⟩ := HT5.out.blk.cells
  obtain ⟨sa, sc', hsv, hsp⟩ := own_shape HT5.out.so
  subst hsv
  have hB5 : B ≤ w5.heap.size := Nat.le_trans hB2 HK5.out.size
  have y6 : Below w5.heap.size w5 (w5.alloc (.cells #[.slice (some ⟨rb, 0, none⟩) (prd S) rc] 36)) := al (Below.refl _ _) _
  have Y6 := hide y6
  have hVl : V.length ≤ 5000000000000 := by rw [HT5.out.vl]; exact hR
  clear y6 hsp
  go_upto_region 19 with (at_builtin; refine wpList_append_view rfl (.tmp 102) (.tmp 104) 47 rfl B 36 i36 (.slice none 0 0) 1 24 Try.underlying47 hi36 hz360 hz361 hz362 rfl (by decide) _ V.length V rfl (own_below HT5.out.so Y6.out) ⟨w5.heap.size, 0, none⟩ 1 1 [.slice (some ⟨rb, 0, none⟩) (prd S) rc] rfl rfl (one_new w5 _ _) (by simp [Value.oneCell']) (by decide) (by unfold maxLen; omega) (by omega) (Nat.le_trans hB5 Y6.out.size) ?_; intro v6 w6 h1 h2; obtain ⟨ao6, cap6, hv6, _⟩ := own_shape h1; subst hv6; have O6 := hide h1; have A6 := hide h2; have K6 := hide ((Kept.of_below (F := fun k => (Value.slice sa V.length sc').ownBlock = some k) Y6.out).trans (appK h2)); have b6 := (K6.out.block tb (lt_of_block HT5.out.blk.1) (fun e => (HT5.out.own3.2.2 tb e).1 rfl)).trans HT5.out.blk.1; have c6 : w6.cell? ⟨tb, 3, none⟩ = some (.slice sa V.length sc') := (by rw [cell_of_row w6 tb _ _ _ _ b6]; rfl); have f6 := frozen_of_row w6 tb 3 _ _ b6; clear h1 h2 b6)
  have ho6 := O6.out
  rw [← HRN.out] at ho6
  obtain ⟨T7, K7, B7, Q7⟩ := TB.addR (L := rowR S N f) HT5.out (fun k hk => CA5.out.plt hk) hB5 RW5.out HRP.out ho6 K6.out (fun k hk => (app_new A6.out hk).imp id (Nat.le_trans Y6.out.size)) rfl
  have HT7 := hide T7
  have HK7 := hide K7
  have HB7 := hide B7
  have HQ7 := hide Q7
  clear T7 K7 B7 Q7 c6 f6 t0 t1 t2 t3 O6 A6 K6 ho6
  generalize w6.setCell ⟨tb, 3, none⟩ (.slice ao6 (V.length + 1) cap6) = w7 at *
  have CA7 : Hid (CA w7 a S M N 8192 P) := CA5.out.kept HK7.out (fun b hb e => e.elim (fun h1 => HT5.out.ps b h1 hb) (fun h1 => HT5.out.ptb (h1 ▸ hb)))
  go_wp2
  go_ret
  refine ⟨rfl, _, _, _, ⟨HT7.out, CA7.out, H2.out.pb, by rw [List.length_append, List.length_append, HFL.out]; rfl, fun i hi => ?_⟩, (X02.out.mono hB).trans (HB5.out.trans HB7.out), fun b L hb => HQ7.out b L (HQ5.out b L (hb.below X02.out))⟩
  rw [List.length_append, List.length_singleton] at hi
  rw [getD_snoc, getD_snoc, HFL.out]
  by_cases hlt : i < R.length
  · rw [if_pos hlt, if_pos hlt]; exact H2.out.says i hlt
  · rw [if_neg hlt, if_neg hlt, if_pos (by omega), if_pos (by omega)]; exact ⟨HF.out, rfl⟩
end
end Go.Proofs.Ytaafeflbanoncaa
