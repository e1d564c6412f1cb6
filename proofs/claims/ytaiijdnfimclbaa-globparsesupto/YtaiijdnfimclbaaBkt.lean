/-
  The statement's book: what it takes, walked. Condition: few lists, short ones.
-/
import Derived.Test.YtaiijdnfimclbaaApt
import Derived.Test.YtaiijdnfimclbaaPlc
import Derived.Deep.AppendLies
import Derived.Deep.RegionHeld3
import Derived.Deep.RegionLaw
namespace Go.Proofs.Ytaiijdnfimclbaa
open Go.RowKit Go.Lib

/-- The book: lists of pieces, lists of spans. -/
structure BkS (base bk : Nat) (L E : List LD) (lv sv : Value) (w : World) : Prop where
  blk : w.heap[bk]? = some (.cells #[lv, sv] 28 (0, 0))
  rl : w.ownsRow base 29 1 lv L.length (L.map LD.v)
  rs : w.ownsRow base 42 1 sv E.length (E.map LD.v)
  lt : bk < base
  sz : base ≤ w.heap.size
def Q3 (t : TypeId) : Prop := t = 28 ∨ t = 29 ∨ t = 42
section
variable {base bk : Nat} {L E : List LD} {lv sv : Value} {w : World}
theorem BkS.below (h : BkS base bk L E lv sv w) {w' : World} (x : Below w.heap.size w w') : BkS base bk L E lv sv w' :=
  ⟨(x.block _ (lt_of_block h.blk)).trans h.blk, own_below h.rl x, own_below h.rs x, h.lt, Nat.le_trans h.sz x.size⟩
theorem BkS.c0 (h : BkS base bk L E lv sv w) : w.cell? ⟨bk, 0, none⟩ = some lv := by rw [cell_of_row _ _ _ _ _ _ h.blk]; rfl
theorem BkS.c1 (h : BkS base bk L E lv sv w) : w.cell? ⟨bk, 1, none⟩ = some sv := by rw [cell_of_row _ _ _ _ _ _ h.blk]; rfl
theorem BkS.pushL (h : BkS base bk L E lv sv w) {w5 w6 : World} (x5 : Below w.heap.size w w5) {v' dv : Value} (h1 : w6.ownsRow base 29 1 v' (L.length + 1) (L.map LD.v ++ [dv])) (h2 : w5.grownBy w6 lv.ownBlock) (n : Nat) :
    BkS base bk (L ++ [⟨dv, n⟩]) E v' sv (w6.setCell ⟨bk, 0, none⟩ v') ∧ KeepT Q3 w (w6.setCell ⟨bk, 0, none⟩ v') ∧ Kept (fun k => k = bk ∨ base ≤ k) w (w6.setCell ⟨bk, 0, none⟩ v') ∧ w6.heap[bk]? = some (.cells #[lv, sv] 28 (0, 0)) := by
  have h5 := h.below x5
  have k6 := kept_of_grown h2
  have hnb : ¬ lv.ownBlock = some bk := fun hf => by have := (World.ownsRow.lt h5.rl bk hf).1; have := h.lt; omega
  have b6 : w6.heap[bk]? = some (.cells #[lv, sv] 28 (0, 0)) := (k6.block bk (lt_of_block h5.blk) hnb).trans h5.blk
  have k7 : Kept (fun k => k = bk) w6 (w6.setCell ⟨bk, 0, none⟩ v') := Kept.setCell (F := fun k => k = bk) (Kept.refl _ _) rfl _
  refine ⟨⟨by rw [block_setCell b6 0]; rfl, ?_, ?_, h.lt, Nat.le_trans h5.sz (Nat.le_trans k6.size k7.size)⟩, ?_, ?_, b6⟩
  · rw [List.length_append, List.map_append]
    refine own_kept h1 k7 (fun k h3 h4 => ?_)
    subst h4
    have := (World.ownsRow.lt h1 k h3).1; have := h.lt; omega
  · refine own_kept (own_kept h5.rs k6 (fun k h3 h4 => own_ne h5.rl h5.rs (by decide) k h4 h3)) k7 (fun k h3 h4 => ?_)
    subst h4
    have := (World.ownsRow.lt h5.rs k h3).1; have := h.lt; omega
  · refine (KeepT.below x5).trans ((KeepT.own h5.rl (.inr (.inl rfl)) k6).trans (KeepT.kept k7 (fun k hk => ?_)))
    subst hk
    exact ⟨_, 28, _, b6, .inl rfl⟩
  · exact ((Kept.of_below (F := fun k => k = bk ∨ base ≤ k) x5).trans (k6.mono (fun k hk => .inr (World.ownsRow.lt h5.rl k hk).1))).trans (k7.mono (fun k hk => .inl hk))
theorem BkS.pushS (h : BkS base bk L E lv sv w) {w5 w6 : World} (x5 : Below w.heap.size w w5) {v' dv : Value} (h1 : w6.ownsRow base 42 1 v' (E.length + 1) (E.map LD.v ++ [dv])) (h2 : w5.grownBy w6 sv.ownBlock) (n : Nat) :
    BkS base bk L (E ++ [⟨dv, n⟩]) lv v' (w6.setCell ⟨bk, 1, none⟩ v') ∧ KeepT Q3 w (w6.setCell ⟨bk, 1, none⟩ v') ∧ Kept (fun k => k = bk ∨ base ≤ k) w (w6.setCell ⟨bk, 1, none⟩ v') ∧ w6.heap[bk]? = some (.cells #[lv, sv] 28 (0, 0)) := by
  have h5 := h.below x5
  have k6 := kept_of_grown h2
  have hnb : ¬ sv.ownBlock = some bk := fun hf => by have := (World.ownsRow.lt h5.rs bk hf).1; have := h.lt; omega
  have b6 : w6.heap[bk]? = some (.cells #[lv, sv] 28 (0, 0)) := (k6.block bk (lt_of_block h5.blk) hnb).trans h5.blk
  have k7 : Kept (fun k => k = bk) w6 (w6.setCell ⟨bk, 1, none⟩ v') := Kept.setCell (F := fun k => k = bk) (Kept.refl _ _) rfl _
  refine ⟨⟨by rw [block_setCell b6 1]; rfl, ?_, ?_, h.lt, Nat.le_trans h5.sz (Nat.le_trans k6.size k7.size)⟩, ?_, ?_, b6⟩
  · refine own_kept (own_kept h5.rl k6 (fun k h3 h4 => own_ne h5.rl h5.rs (by decide) k h3 h4)) k7 (fun k h3 h4 => ?_)
    subst h4
    have := (World.ownsRow.lt h5.rl k h3).1; have := h.lt; omega
  · rw [List.length_append, List.map_append]
    refine own_kept h1 k7 (fun k h3 h4 => ?_)
    subst h4
    have := (World.ownsRow.lt h1 k h3).1; have := h.lt; omega
  · refine (KeepT.below x5).trans ((KeepT.own h5.rs (.inr (.inr rfl)) k6).trans (KeepT.kept k7 (fun k hk => ?_)))
    subst hk
    exact ⟨_, 28, _, b6, .inl rfl⟩
  · exact ((Kept.of_below (F := fun k => k = bk ∨ base ≤ k) x5).trans (k6.mono (fun k hk => .inr (World.ownsRow.lt h5.rs k hk).1))).trans (k7.mono (fun k hk => .inl hk))
end
theorem OwnP.keepT {Q : TypeId → Prop} {w w' : World} {base : Nat} {v : Value} {D : List PD} (h : OwnP w base v D) (hk : KeepT Q w w') (h1 : ¬ Q 44) (h2 : ¬ Q 59) : OwnP w' base v D :=
  ⟨own_keepT h.row hk h1, fun d hd => own_keepT (h.sets d hd) hk h2, h.apart⟩
def sld (d : PD) : LD := ⟨d.v, d.p.set.length⟩
theorem one_cell (W : World) (v : Value) (T : TypeId) (j : Nat) (u : Value) (hu : ([v] : List Value)[j]? = some u) : (W.alloc (.cells #[v] T)).cell? ((⟨W.heap.size, 0, none⟩ : Addr).add j) = some u := by
  match j, hu with
  | 0, hu => simp at hu; subst hu; simp [Addr.add]
/-- What stands within takes. -/
structure TkS (w0 : World) (base bk : Nat) (L E : List LD) (v : Value) (D : List PD) (lv sv : Value) (i : Nat) (w : World) : Prop where
  bks : BkS base bk L (E ++ (D.take i).map sld) lv sv w
  own : OwnP w base v D
  keep : KeepT Q3 w0 w
  kept : Kept (fun k => k = bk ∨ base ≤ k) w0 w
theorem pd_cell {w : World} {base g cap : Nat} {D : List PD} (h : OwnP w base (.slice (some ⟨g, 0, none⟩) D.length cap) D) {i : Nat} (hi : i < D.length) : w.cell? ⟨g, i * 4 + 3, none⟩ = some (D[i]).v := by
  obtain ⟨ao, c, e, _, hat⟩ := h.at
  simp only [Value.slice.injEq] at e
  obtain ⟨rfl, _, rfl⟩ := e
  rcases hat with h0 | ⟨b, off, e2, _, hc⟩
  · rw [h0] at hi; cases hi
  · simp only [Option.some.injEq, Addr.mk.injEq] at e2
    obtain ⟨rfl, rfl, _⟩ := e2
    have := (hc i hi).2.2.2.1
    simpa [PD.v] using this
set_option maxRecDepth 100000 in
set_option maxHeartbeats 4000000 in
theorem takes_any (w : World) (base bk : Nat) (L E : List LD) (lv sv v : Value) (D : List PD) (h : BkS base bk L E lv sv w) (ho : OwnP w base v D) (hL : L.length ≤ 1000) (hE : E.length ≤ 1000) (hD : D.length ≤ 64) :
    Calls Try.prog 13 #[.pointer (some ⟨bk, 0, none⟩), v] w fun e w' => e = .returned (.tuple #[]) ∧ ∃ lv' sv', TkS w base bk (L ++ [⟨v, D.length⟩]) E v D lv' sv' D.length w' := by
  obtain ⟨i29, hi29, hz290, hz291, hz292⟩ := info_parts Try.info29s
  obtain ⟨i42, hi42, hz420, hz421, hz422⟩ := info_parts Try.info42s
  obtain ⟨ao, cap, rfl, hpos⟩ := own_shape ho.row
  obtain ⟨la, lc, hlv, _⟩ := own_shape h.rl
  subst hlv
  have c0 := h.c0
  have X5 : Hid (Below w.heap.size w (w.alloc (.cells #[.slice ao D.length cap] 29))) := al (Below.refl _ _) _
  have H5 := hide (own_below h.rl X5.out)
  have HN5 := hide (one_cell w (.slice ao D.length cap) 29)
  have HS5 : Hid (base ≤ (w.alloc (.cells #[.slice ao D.length cap] 29)).heap.size) := Nat.le_trans h.sz X5.out.size
  have HB := hide h
  have HO := hide ho
  clear h ho
  go_enter Try.func13, Try.ntmps13
  go_wp2_with (at_builtin; refine wpList_append_lies _ rfl (.tmp 9) (.tmp 11) 25 rfl base 29 i29 (.slice none 0 0) 1 24 Try.underlying25 hi29 hz290 hz291 hz292 rfl (by decide) _ L.length (L.map LD.v) rfl H5.out ⟨w.heap.size, 0, none⟩ 1 1 [.slice ao D.length cap] rfl rfl HN5.out (by simp [Value.oneCell']) (by decide) (by unfold maxLen; omega) (by omega) HS5.out _ rfl ?_; intro g6 cap6 w6 h1 h2 h3 h4; have HP := hide (HB.out.pushL X5.out h1 h2 D.length); have c6 : w6.cell? ⟨bk, 0, none⟩ = some (.slice la L.length lc) := (by rw [cell_of_row _ _ _ _ _ _ HP.out.2.2.2]; rfl); have f6 := frozen_of_row _ _ 0 _ _ HP.out.2.2.2; clear h1 h2 h3 h4 c0)
  have S0 : Hid (TkS w base bk (L ++ [⟨.slice ao D.length cap, D.length⟩]) E (.slice ao D.length cap) D (.slice (some ⟨g6, 0, none⟩) (L.length + 1) cap6) sv 0 (w6.setCell ⟨bk, 0, none⟩ (.slice (some ⟨g6, 0, none⟩) (L.length + 1) cap6))) :=
    ⟨by simpa using HP.out.1, HO.out.keepT HP.out.2.1 (by unfold Q3; decide) (by unfold Q3; decide), HP.out.2.1, HP.out.2.2.1⟩
  clear c6 f6 HP X5 H5 HN5 HS5
  generalize (.slice (some ⟨g6, 0, none⟩) (L.length + 1) cap6 : Value) = lv' at *
  generalize w6.setCell ⟨bk, 0, none⟩ lv' = w7 at *
  go_loopg [4] (D.length + 1) (fun g x wr => ∃ (i : Nat) (s' : Value), i ≤ D.length ∧ x = .int .i64 i ∧ Hid (TkS w base bk (L ++ [⟨.slice ao D.length cap, D.length⟩]) E (.slice ao D.length cap) D lv' s' i wr) ∧ D.length - i < g)
  case atStart => exact ⟨0, sv, Nat.zero_le _, rfl, S0, by omega⟩
  case round =>
    obtain ⟨i, s', hi1, rfl, S, hg⟩ := hrel
    have HG := hide hg
    clear S0 hg
    by_cases hlt : i < D.length
    · have hlt' : (i : Int) < (D.length : Int) := by omega
      obtain ⟨pb, rfl⟩ := hpos (by omega)
      have cs := pd_cell S.out.own hlt
      have c1 := S.out.bks.c1
      obtain ⟨sa, sc, hsv, _⟩ := own_shape S.out.bks.rs
      subst hsv
      have hel : (E ++ (D.take i).map sld).length ≤ 1064 := by simp; omega
      obtain ⟨d, hd⟩ : ∃ d, D[i] = d := ⟨_, rfl⟩
      have HTK : Hid (E ++ (D.take (i + 1)).map sld = (E ++ (D.take i).map sld) ++ [⟨d.v, d.p.set.length⟩]) := by
        unfold Hid
        rw [List.take_succ_eq_append_getElem hlt, List.map_append, List.append_assoc, hd]
        rfl
      rw [hd] at cs
      clear hd
      unfold PD.v at cs HTK
      have HTS := hide S.out.bks
      have hbk : bk < wr.heap.size := lt_of_block S.out.bks.blk
      have hpb : pb < wr.heap.size := (World.ownsRow.lt S.out.own.row pb rfl).2
      generalize hEE : E ++ (D.take i).map sld = EE at *
      have X5 : Hid (Below wr.heap.size wr (wr.alloc (.cells #[.slice d.so d.p.set.length d.sc] 42)).drew) := (al (Below.refl _ _) _).drew
      have H5 := hide (own_below HTS.out.rs X5.out)
      have HN5 : Hid (∀ j u, ([.slice d.so d.p.set.length d.sc] : List Value)[j]? = some u → (wr.alloc (.cells #[.slice d.so d.p.set.length d.sc] 42)).drew.cell? ((⟨wr.heap.size, 0, none⟩ : Addr).add j) = some u) := fun j u hu => one_cell wr _ 42 j u hu
      have HS5 : Hid (base ≤ (wr.alloc (.cells #[.slice d.so d.p.set.length d.sc] 42)).drew.heap.size) := Nat.le_trans HTS.out.sz X5.out.size
      have HNX : Hid (∀ (g cp : Nat) (w6 : World), w6.ownsRow base 42 1 (.slice (some ⟨g, 0, none⟩) (EE.length + 1) cp) (EE.length + 1) (EE.map LD.v ++ [.slice d.so d.p.set.length d.sc]) → (wr.alloc (.cells #[.slice d.so d.p.set.length d.sc] 42)).drew.grownBy w6 (.slice sa EE.length sc : Value).ownBlock → TkS w base bk (L ++ [⟨.slice (some ⟨pb, 0, none⟩) D.length cap, D.length⟩]) E (.slice (some ⟨pb, 0, none⟩) D.length cap) D lv' (.slice (some ⟨g, 0, none⟩) (EE.length + 1) cp) (i + 1) (w6.setCell ⟨bk, 1, none⟩ (.slice (some ⟨g, 0, none⟩) (EE.length + 1) cp)) ∧ w6.heap[bk]? = some (.cells #[lv', .slice sa EE.length sc] 28 (0, 0))) := fun g cp w6 h1 h2 => by
        obtain ⟨q1, q2, q3, q4⟩ := HTS.out.pushS X5.out h1 h2 d.p.set.length
        exact ⟨⟨by rw [HTK.out]; exact q1, S.out.own.keepT q2 (by unfold Q3; decide) (by unfold Q3; decide), S.out.keep.trans q2, S.out.kept.trans q3⟩, q4⟩
      have HNE : Hid (¬ (.slice sa EE.length sc : Value).ownBlock = some pb) := fun hf => own_ne S.out.own.row HTS.out.rs (by decide) pb rfl hf
      have CS5 := hide ((X5.out.cell (p := ⟨pb, i * 4 + 3, none⟩) hpb).trans cs)
      have LT5 : Hid (pb < (wr.alloc (.cells #[.slice d.so d.p.set.length d.sc] 42)).drew.heap.size) := Nat.lt_of_lt_of_le hpb X5.out.size
      go_wp2
      go_region_law
        ((refine step_append_lies _ (by rfl) (.tmp 25) (.tmp 31) 26 (by rfl) base 42 i42 (.slice none 0 0) 1 24 Try.underlying26 hi42 hz420 hz421 hz422 rfl (by decide) _ EE.length (EE.map LD.v) (by rfl) H5.out ⟨wr.heap.size, 0, none⟩ 1 1 [.slice d.so d.p.set.length d.sc] (by rfl) (by rfl) HN5.out (by simp [Value.oneCell']) (by decide) (by unfold maxLen; omega) (by omega) HS5.out _ rfl ?_; intro g6 cap6 w6 h1 h2 h3 h4; obtain ⟨q1, q4⟩ := HNX.out g6 cap6 w6 h1 h2; have d1 : w6.cell? ⟨bk, 1, none⟩ = some (.slice sa EE.length sc) := (by rw [cell_of_row _ _ _ _ _ _ q4]; rfl); have f1 := frozen_of_row _ _ 1 _ _ q4; have d2 : w6.cell? ⟨pb, i * 4 + 3, none⟩ = some (.slice d.so d.p.set.length d.sc) := (((kept_of_grown h2).cell (p := ⟨pb, i * 4 + 3, none⟩) LT5.out HNE.out).trans CS5.out); have Q1 := hide q1; clear h1 h2 h3 h4 q1 q4))
      all_goals (clear c1 cs d1 d2 f1; go_wp2)
      all_goals go_roundg (D.length - (i + 1) + 1)
      all_goals first | (have := HG.out; omega) | exact ⟨i + 1, _, by omega, by first | rfl | go_num | (congr 1; omega), Q1, by omega⟩
    · have hlt' : ¬ (i : Int) < (D.length : Int) := by omega
      obtain rfl : i = D.length := by omega
      go_wp2
      refine bodyPost_end (v := .tuple #[]) (results_none rfl _ _ _) rfl ?_
      exact ⟨rfl, lv', s', S.out⟩
end Go.Proofs.Ytaiijdnfimclbaa
