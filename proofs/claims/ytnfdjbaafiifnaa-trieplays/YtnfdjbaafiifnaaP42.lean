/-
  A trie and the document's beside it; maps by its contract. Condition: labels elsewhere than the tries.
-/
import Derived.Test.YtnfdjbaafiifnaaP37
import Derived.Test.YtnfdjbaafiifnaaP40
import Derived.Test.YtnfdjbaafiifnaaP41
namespace Go.Proofs.Ytnfdjbaafiifnaa
open Go.RowKit Go.Lib

theorem labs_at {p : Int → Prop} : ∀ (n : Nat) (t : Tr), t.dep ≤ n → n ≤ 32 → (t.labs p ↔ ∀ x, x < 4294967296 → p (t.at x))
  | _, .leaf l, _, _ => ⟨fun h _ _ => h, fun h => h 0 (by decide)⟩
  | 0, .fork a b, hd, _ => by simp [Tr.dep] at hd
  | n + 1, .fork a b, hd, hn => by
    have hd' : a.dep ≤ n ∧ b.dep ≤ n := by simp [Tr.dep] at hd; omega
    have ha := labs_at (p := p) n a hd'.1 (by omega)
    have hb := labs_at (p := p) n b hd'.2 (by omega)
    have low : ∀ (t : Tr) (m : Nat), t.dep ≤ m → m ≤ 31 → ∀ x, x < 4294967296 → ∃ y, y < 2147483648 ∧ t.at (sh y) = t.at x := fun t m h1 h2 x hx => by
      refine ⟨x / 2, by omega, ?_⟩
      have e : sh (x / 2) = x / 2 * 2 := by unfold sh; omega
      rw [e]
      have key : ∀ (m : Nat) (t : Tr), t.dep ≤ m → m ≤ 31 → ∀ x y, x < 4294967296 → y < 4294967296 → x / 2 ^ (32 - m) = y / 2 ^ (32 - m) → t.at x = t.at y := by
        intro m
        induction m with
        | zero =>
          intro t h1 _ x y _ _ _
          cases t with
          | leaf l => rfl
          | fork a b => simp [Tr.dep] at h1
        | succ m ih =>
          intro t h1 h2 x y hx hy he
          cases t with
          | leaf l => rfl
          | fork a b =>
            have hd' : a.dep ≤ m ∧ b.dep ≤ m := by simp [Tr.dep] at h1; omega
            rw [show 32 - (m + 1) = 31 - m by omega] at he
            obtain ⟨g1, g2⟩ := (top_succ hx hy (by omega)).1 he
            show (if 2147483648 ≤ x then b.at (sh x) else a.at (sh x)) = if 2147483648 ≤ y then b.at (sh y) else a.at (sh y)
            by_cases hh : 2147483648 ≤ x
            · rw [if_pos hh, if_pos (g1.1 hh)]
              exact ih b hd'.2 (by omega) _ _ (sh_lt _) (sh_lt _) g2
            · rw [if_neg hh, if_neg (fun h => hh (g1.2 h))]
              exact ih a hd'.1 (by omega) _ _ (sh_lt _) (sh_lt _) g2
      refine key 31 t (by omega) (Nat.le_refl _) _ _ (by omega) hx ?_
      show x / 2 * 2 / 2 ^ 1 = x / 2 ^ 1
      omega
    constructor
    · rintro ⟨h1, h2⟩ x hx
      show p (if 2147483648 ≤ x then b.at (sh x) else a.at (sh x))
      split
      · exact hb.1 h2 _ (sh_lt _)
      · exact ha.1 h1 _ (sh_lt _)
    · intro h
      refine ⟨ha.2 (fun x hx => ?_), hb.2 (fun x hx => ?_)⟩
      · obtain ⟨y, hy, e⟩ := low a n hd'.1 (by omega) x hx
        have := h y (by omega)
        rw [show (Tr.fork a b).at y = if 2147483648 ≤ y then b.at (sh y) else a.at (sh y) from rfl, if_neg (by omega), e] at this
        exact this
      · obtain ⟨y, hy, e⟩ := low b n hd'.2 (by omega) x hx
        have := h (y + 2147483648) (by omega)
        rw [show (Tr.fork a b).at (y + 2147483648) = if 2147483648 ≤ y + 2147483648 then b.at (sh (y + 2147483648)) else a.at (sh (y + 2147483648)) from rfl, if_pos (by omega), show sh (y + 2147483648) = sh y by unfold sh; omega, e] at this
        exact this
theorem Kept.trans_new {F G : Nat → Prop} {a b c : World} (h : Kept F a b) (k : Kept G b c) (hG : ∀ i, i < a.heap.size → G i → F i) : Kept F a c :=
  ⟨k.os.trans h.os, k.tape.trans h.tape, k.output.trans h.output, Nat.le_trans h.size k.size, fun i hi hf => (k.block i (Nat.lt_of_lt_of_le hi h.size) (fun hg => hf (hG i hi hg))).trans (h.block i hi hf)⟩
/-- A trie and the document's, which say the same. -/
structure SdAt (w : World) (xb tb rb : Nat) (T : Tr) : Prop where
  blk : w.heap[xb]? = some (.cells #[.pointer (some ⟨tb, 0, none⟩), .pointer (some ⟨rb, 0, none⟩)] 39 (0, 0))
  tr : TrieAt w T (.pointer (some ⟨tb, 0, none⟩))
  dt : DtAt w rb T.at
  nf : T.nf
  labs : T.labs Lab
  dep : T.dep ≤ 32
theorem SdAt.below {w w' : World} {xb tb rb : Nat} {T : Tr} (h : SdAt w xb tb rb T) (x : Below w.heap.size w w') : SdAt w' xb tb rb T :=
  ⟨(x.block xb (lt_of_block h.blk)).trans h.blk, h.tr.below x, h.dt.below x, h.nf, h.labs, h.dep⟩
theorem TrieAt.blk4 {w : World} {t : Tr} {b : Nat} (h : TrieAt w t (.pointer (some ⟨b, 0, none⟩))) : ∃ r, w.heap[b]? = some (.cells #[r] 73 (0, 0)) := by
  obtain ⟨b', r, e, h1, _⟩ := h
  cases e
  exact ⟨r, h1⟩
theorem DtAt.blk {w : World} {b : Nat} {g : Nat → Int} (h : DtAt w b g) : ∃ v, w.heap[b]? = some (.cells #[v] 78 (0, 0)) := by
  obtain ⟨v, _, _, _, h1, _⟩ := h
  exact ⟨v, h1⟩
theorem ZAt.other {F : Nat → Prop} {w w' : World} {ao : Option Addr} {L : List Int} (h : ZAt w ao L) (hk : Kept F w w') (hF : ∀ b off, ao = some ⟨b, off, none⟩ → L ≠ [] → ¬ F b) : ZAt w' ao L := by
  rcases h with rfl | ⟨b, off, e, hlt, hc⟩
  · exact .inl rfl
  · by_cases hL : L = []
    · exact .inl hL
    · exact .inr ⟨b, off, e, Nat.lt_of_lt_of_le hlt hk.size, fun i hi => (hk.cell (p := ⟨b, off + i, none⟩) hlt (hF b off e hL)).trans (hc i hi)⟩
theorem OwnI.zat {w : World} {base g n cap : Nat} {L : List Int} (h : OwnI w base (.slice (some ⟨g, 0, none⟩) n cap) (lenI L)) : ZAt w (some ⟨g, 0, none⟩) L := by
  obtain ⟨_, _, e, _⟩ := own_shape h
  injection e with _ e _
  subst e
  refine .inr ⟨g, 0, rfl, (World.ownsRow.lt h g rfl).2, fun i hi => ?_⟩
  have hl := lenI_length L
  have h' : w.ownsRow base 3 1 (.slice (some ⟨g, 0, none⟩) (lenI L).length cap) (lenI L).length (izC (lenI L)) := h
  rw [Nat.zero_add, World.ownsRow.cellAt h' i (by omega)]
  unfold izC lenI
  rw [List.getElem?_map, List.getElem?_append_left hi, List.getElem?_eq_getElem hi]
  simp [List.getD_eq_getElem?_getD, hi]
set_option maxRecDepth 100000 in
set_option maxHeartbeats 2000000 in
theorem maps_any {w : World} {xb tb rb : Nat} {T : Tr} (ao : Option Addr) (cap : Nat) (L : List Int) (hl : L.length ≤ 4294967296) (hat : ZAt w ao L) (hne : ∀ b off, ao = some ⟨b, off, none⟩ → L ≠ [] → b ≠ tb ∧ b ≠ rb) (h : SdAt w xb tb rb T) :
    Calls Try.prog 30 #[.pointer (some ⟨xb, 0, none⟩), .slice ao L.length cap] w fun e w' => e = .returned (.bool true) ∧ (∃ T', SdAt w' xb tb rb T') ∧ Kept (fun k => k = tb ∨ k = rb) w w' := by
  have HLI := hide (lentI_any ao cap L w hl hat)
  have HS := hide h
  have HAT := hide hat
  have HNE := hide hne
  have hxl := lt_of_block h.blk
  clear h hat hne
  go_enter Try.func30, Try.ntmps30
  go_upto_region 2 with (go_at_call 49; refine HLI.out.mono ?_; rintro e w1 ⟨rfl, ho, x1⟩; have HO1 := hide ho; have X1 := hide x1; clear ho x1)
  clear HLI
  have S1 := hide (HS.out.below X1.out)
  obtain ⟨hb, hhb⟩ : ∃ hb, hb = w.heap.size := ⟨_, rfl⟩
  rw [← hhb] at HO1 ⊢
  obtain ⟨rt, htb⟩ := HS.out.tr.blk4
  obtain ⟨rr, hrb⟩ := HS.out.dt.blk
  have htl : tb < hb := by rw [hhb]; exact lt_of_block htb
  have hrl : rb < hb := by rw [hhb]; exact lt_of_block hrb
  have hab : ∀ b off, ao = some ⟨b, off, none⟩ → L ≠ [] → b ≠ hb := fun b off e hL => by
    rcases HAT.out with h | ⟨b', off', e', hlt, _⟩
    · exact absurd h hL
    · rw [e] at e'
      cases e'
      omega
  have HAB := hide hab
  have HHB := hide hhb
  clear hhb htb hrb hab
  -- Map of the code
  have HMT := hide (mapT_any (b := tb) (cap := L.length + 3) L w1.drew (by omega) S1.out.labs ((OwnI.zat HO1.out).below (Below.drew (Below.refl _ _))) (S1.out.tr.below (Below.drew (Below.refl _ _))))
  have HQ : Hid (∀ V, Below w1.heap.size w1 V → V.cell? ⟨xb, 0, none⟩ = some (.pointer (some ⟨tb, 0, none⟩)) ∧ xb < V.heap.size) := fun V y => by
    have := (S1.out.below y).blk
    exact ⟨by rw [cell_of_row _ _ _ _ _ _ this]; rfl, lt_of_block this⟩
  have i1 : (L.length : Int) ≤ (L.length : Int) + 3 := by omega
  refine wp_unt (S := fun V => Below w1.heap.size w1 V) 8 (by kernel_rfl) ?_
  have HS0 : Hid (Below w1.heap.size w1 w1.drew) := (Below.refl _ _).drew
  have S2 := hide (S1.out.below HS0.out)
  have HO2 := hide (own_below HO1.out HS0.out)
  have X2 := hide (bt X1.out HS0.out (Nat.le_refl _))
  generalize w1.drew = wd at *
  refine UntH.take (i := 0) (some 10) rfl rfl (by kernel_rfl) (by kernel_rfl) (by kernel_rfl) (by kernel_rfl) (fun _ _ _ _ h => h) (by rfl) HS0.out ?_
  apply Exists.intro
  refine ⟨fun w' hw' => ?_, ?_⟩
  · obtain ⟨q1, q2⟩ := HQ.out w' hw'
    go_simp
    first | done | rfl
  try simp only [Act.put, List.setIfInBounds_toArray, List.set_cons_zero, List.set_cons_succ]
  refine UntH.take (i := 1) (some 11) rfl rfl (by kernel_rfl) (by kernel_rfl) (by kernel_rfl) (by kernel_rfl) (fun _ _ _ _ h => h) (by rfl) HS0.out ?_
  apply Exists.intro
  refine ⟨fun w' hw' => ?_, ?_⟩
  · obtain ⟨q1, q2⟩ := HQ.out w' hw'
    go_simp
    first | done | rfl
  try simp only [Act.put, List.setIfInBounds_toArray, List.set_cons_zero, List.set_cons_succ]
  refine UntH.take (i := 2) (some 12) rfl rfl (by kernel_rfl) (by kernel_rfl) (by kernel_rfl) (by kernel_rfl) (fun _ _ _ _ h => h) (by rfl) HS0.out ?_
  apply Exists.intro
  refine ⟨fun w' hw' => ?_, ?_⟩
  · obtain ⟨q1, q2⟩ := HQ.out w' hw'
    go_simp
    first | done | rfl
  try simp only [Act.put, List.setIfInBounds_toArray, List.set_cons_zero, List.set_cons_succ]
  refine UntH.take (i := 3) (some 13) rfl rfl (by kernel_rfl) (by kernel_rfl) (by kernel_rfl) (by kernel_rfl) (fun _ _ _ _ h => h) (by rfl) HS0.out ?_
  apply Exists.intro
  refine ⟨fun w' hw' => ?_, ?_⟩
  · obtain ⟨q1, q2⟩ := HQ.out w' hw'
    go_simp
    first | done | rfl
  try simp only [Act.put, List.setIfInBounds_toArray, List.set_cons_zero, List.set_cons_succ]
  refine UntH.take (i := 4) (some 14) rfl rfl (by kernel_rfl) (by kernel_rfl) (by kernel_rfl) (by kernel_rfl) (fun _ _ _ _ h => h) (by rfl) HS0.out ?_
  apply Exists.intro
  refine ⟨fun w' hw' => ?_, ?_⟩
  · obtain ⟨q1, q2⟩ := HQ.out w' hw'
    go_simp
    first | done | rfl
  try simp only [Act.put, List.setIfInBounds_toArray, List.set_cons_zero, List.set_cons_succ]
  refine UntH.take (i := 5) (some 15) rfl rfl (by kernel_rfl) (by kernel_rfl) (by kernel_rfl) (by kernel_rfl) (fun _ _ _ _ h => h) (by rfl) HS0.out ?_
  apply Exists.intro
  refine ⟨fun w' hw' => ?_, ?_⟩
  · obtain ⟨q1, q2⟩ := HQ.out w' hw'
    go_simp
    first | done | rfl
  try simp only [Act.put, List.setIfInBounds_toArray, List.set_cons_zero, List.set_cons_succ]
  refine UntH.take (i := 6) (some 16) rfl rfl (by kernel_rfl) (by kernel_rfl) (by kernel_rfl) (by kernel_rfl) (fun _ _ _ _ h => h) (by rfl) HS0.out ?_
  apply Exists.intro
  refine ⟨fun w' hw' => ?_, ?_⟩
  · obtain ⟨q1, q2⟩ := HQ.out w' hw'
    go_simp
    first | done | rfl
  try simp only [Act.put, List.setIfInBounds_toArray, List.set_cons_zero, List.set_cons_succ]
  refine UntH.take (i := 7) (some 17) rfl rfl (by kernel_rfl) (by kernel_rfl) (by kernel_rfl) (by kernel_rfl) (fun _ _ _ _ h => h) (by rfl) HS0.out ?_
  apply Exists.intro
  refine ⟨fun w' hw' => ?_, ?_⟩
  · obtain ⟨q1, q2⟩ := HQ.out w' hw'
    go_simp
    first | done | rfl
  try simp only [Act.put, List.setIfInBounds_toArray, List.set_cons_zero, List.set_cons_succ]
  refine UntH.stepf (i := 8) (by kernel_rfl) rfl (by kernel_rfl) (fun K' hK => ?_)
  go_simp
  refine HMT.out.mono ?_
  rintro e w3 ⟨hres, hk3⟩
  have K3 := hide hk3
  obtain ⟨ev, T', rfl, HR⟩ : ∃ (ev : Int) (T' : Tr), e = .returned (.int .i64 ev) ∧ Hid (TrieAt w3 T' (.pointer (some ⟨tb, 0, none⟩)) ∧ ((T.labs (trOk L) ∧ ev = 0 ∧ T' = T.map (tr L)) ∨ (¬ T.labs (trOk L) ∧ ev = 1 ∧ T' = T))) := by
    rcases hres with ⟨h1, rfl, h3⟩ | ⟨h1, rfl, h3⟩
    · exact ⟨0, _, rfl, h3, .inl ⟨h1, rfl, rfl⟩⟩
    · exact ⟨1, _, rfl, h3, .inr ⟨h1, rfl, rfl⟩⟩
  clear hres hk3 HMT
  refine hK _ _ ?_
  clear hK K'
  refine UntH.stepf (i := 9) (by kernel_rfl) rfl (by kernel_rfl) (fun K' hK => ?_)
  go_simp
  refine hK _ _ ?_
  clear hK K'
  refine UntH.end (by kernel_rfl) ?_
  have hbt : ¬ hb = tb := by omega
  have HO3 : Hid (OwnI w3 hb (.slice (some ⟨hb, 0, none⟩) (L.length + 3) (L.length + 3)) (lenI L)) := own_kept HO2.out K3.out (fun j hj e => by cases hj; exact hbt e)
  have HZ3 : Hid (ZAt w3 ao L) := ((HAT.out.below X1.out).below HS0.out).other K3.out (fun b off e hL hf => (HNE.out b off e hL).1 hf)
  have B3 := hide ((K3.out.block xb (lt_of_block S2.out.blk) (fun e => by
    obtain ⟨r, hr⟩ := S2.out.tr.blk4
    rw [← e, S2.out.blk] at hr
    simp at hr)).trans S2.out.blk)
  have D3 : Hid (DtAt w3 rb T.at) := S2.out.dt.kept K3.out (fun k hk => by
    subst hk
    obtain ⟨r, hr⟩ := S2.out.tr.blk4
    exact ⟨_, 73, _, hr, by decide, by decide⟩)
  have HWH := hide (wholeI_any ao cap hb hb L w3 hl HZ3.out HAB.out HO3.out)
  go_upto_region 4 with (go_at_call 50; refine HWH.out.mono ?_; rintro e w4 ⟨rfl, hk4⟩; have K4 := hide hk4; clear hk4)
  clear HWH
  have HI4 : Hid (w3.heap[hb]? ≠ none ∧ ∃ cs, w3.heap[hb]? = some (.cells cs 3 (0, 0))) := by
    obtain ⟨cs, hc⟩ := own_ty HO3.out hb rfl
    exact ⟨by rw [hc]; simp, cs, hc⟩
  have HF4 : Hid (∀ k, k = hb → ∃ cs T f, w3.heap[k]? = some (.cells cs T f) ∧ T = 3) := fun k hk => by
    subst hk
    obtain ⟨_, cs, hc⟩ := HI4.out
    exact ⟨cs, 3, _, hc, rfl⟩
  have HZ4 : Hid (ZAt w4 ao L) := HZ3.out.other K4.out (fun b off e hL hf => HAB.out b off e hL hf)
  have hxh : ¬ xb = hb := by have := HHB.out; omega
  have B4 := hide ((K4.out.block xb (lt_of_block B3.out) hxh).trans B3.out)
  have D4 : Hid (DtAt w4 rb T.at) := D3.out.kept K4.out (fun k hk => by
    obtain ⟨cs, T0, f, h1, h2⟩ := HF4.out k hk
    exact ⟨cs, T0, f, h1, by rw [h2]; decide, by rw [h2]; decide⟩)
  have T4 : Hid (TrieAt w4 T' (.pointer (some ⟨tb, 0, none⟩))) := HR.out.1.kept K4.out (fun k hk => by
    obtain ⟨cs, T0, f, h1, h2⟩ := HF4.out k hk
    exact ⟨cs, T0, f, h1, by rw [h2]; decide, by rw [h2]; decide⟩)
  have HMD := hide (mapD_any (lcap := cap) L (by omega) ((labs_at 32 T S2.out.dep (Nat.le_refl _)).1 S2.out.labs) HZ4.out D4.out)
  have c1 : w4.cell? ⟨xb, 1, none⟩ = some (.pointer (some ⟨rb, 0, none⟩)) := by rw [cell_of_row _ _ _ _ _ _ B4.out]; rfl
  have hx4 := lt_of_block B4.out
  have HFIN : Hid (∀ e w5, MpD w4 rb T.at L e w5 → e = .returned (.int .i64 ev) ∧ (∃ T'', SdAt w5 xb tb rb T'') ∧ Kept (fun k => k = tb ∨ k = rb) w w5) := fun e w5 hd => by
    have hla := labs_at (p := trOk L) 32 T S2.out.dep (Nat.le_refl _)
    have KW : Kept (fun k => k = tb ∨ k = rb) w w4 := Kept.trans_new (F := fun k => k = tb ∨ k = rb) ((Kept.of_below X2.out).trans (K3.out.mono (fun k hk => .inl hk))) K4.out (fun k hk hf => by subst hf; have := HHB.out; omega)
    rcases HR.out.2 with ⟨h1, rfl, h3⟩ | ⟨h1, rfl, h3⟩
    · obtain ⟨g1, g2, g3⟩ := hd.1 (hla.1 h1)
      refine ⟨g1, ⟨T', ?_⟩, KW.trans (g3.mono (fun k hk => .inr hk))⟩
      have hxr : ¬ xb = rb := fun e => by
        obtain ⟨v, hv⟩ := D4.out.blk
        rw [← e, B4.out] at hv
        simp at hv
      refine ⟨(g3.block xb hx4 hxr).trans B4.out, T4.out.kept g3 (fun k hk => by
        subst hk
        obtain ⟨v, hv⟩ := D4.out.blk
        exact ⟨_, 78, _, hv, by decide, by decide⟩), g2.congr (fun n _ => by rw [h3, map_at]), by rw [h3]; exact map_nf _ _, by rw [h3]; exact map_labs (p := trOk L) (fun l hl => by unfold tr; rw [if_pos hl.1]; exact hl.2) T h1, by rw [h3]; exact Nat.le_trans (map_dep _ _) S2.out.dep⟩
    · obtain ⟨g1, g2⟩ := hd.2 (fun hh => h1 (hla.2 hh))
      refine ⟨g1, ⟨T, ?_⟩, KW.trans (Kept.of_below g2)⟩
      rw [h3] at T4
      exact ⟨(g2.block xb hx4).trans B4.out, T4.out.below g2, D4.out.below g2, S2.out.nf, S2.out.labs, S2.out.dep⟩
  have HMF : Hid (Calls Try.prog 51 #[.pointer (some ⟨rb, 0, none⟩), .slice ao L.length cap] w4 fun e w5 => e = .returned (.int .i64 ev) ∧ (∃ T'', SdAt w5 xb tb rb T'') ∧ Kept (fun k => k = tb ∨ k = rb) w w5) := HMD.out.mono fun e w5 hd => HFIN.out e w5 hd
  clear HFIN HMD HR T4 D4 B4 HZ4 HF4 HI4 K4 K3 D3 B3 HZ3 HO3
  have hee : (ev == ev) = true := by simp
  go_wp2_with (go_at_call 51; refine HMF.out.mono ?_; rintro e w5 ⟨rfl, hs5, hk5⟩; have HS5 := hide hs5; have HK5 := hide hk5; clear hs5 hk5)
  go_ret
  exact ⟨rfl, HS5.out, HK5.out⟩
end Go.Proofs.Ytnfdjbaafiifnaa
