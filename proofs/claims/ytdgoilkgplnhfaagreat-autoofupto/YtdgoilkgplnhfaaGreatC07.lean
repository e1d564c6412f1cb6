/-
  Things numbered by their looks: the five forms of numbered, by their contract. Condition: at most 2^32 things.
-/
import Derived.Carry
import Derived.Test.YtdgoilkgplnhfaaGreatC06
set_option maxRecDepth 100000
set_option maxHeartbeats 16000000
namespace Go.Proofs.YtdgoilkgplnhfaaGreat
open Go.RowKit Go.Lib Go.Maps
structure NmDone (base : Nat) (lit : Nat → Lit) (N : Nat) (v1 v2 : Value) (num fst : List Nat) (w : World) : Prop where
 o1 : OwnN w base v1 num
 o2 : OwnN w base v2 fst
 ap : ∀ b, v1.ownBlock = some b → ¬ v2.ownBlock = some b
 len : num.length = N
 nf : NumF lit N (gN num) (gN fst) fst.length
theorem NmS.start (k : TypeId) (w : World) (lit : Nat → Lit) (N : Nat) (w2 : World) (h1 : w2.ownsRow w.heap.size 3 1 (.slice (some ⟨(w.alloc (.map #[] 0)).heap.size, 0, none⟩) N N) N (madeCells (Value.int .i64 0).cells (N * 1)).toList) (h2 : (w.alloc (.map #[] 0)).grownBy w2 none) :
 NmS k w lit N w.heap.size (.slice (some ⟨w.heap.size + 1, 0, none⟩) N N) (.slice none 0 0) [] [] w2 := by
 rw [show (w.alloc (.map #[] 0)).heap.size = w.heap.size + 1 by simp] at h1
 have x0 : Below w.heap.size w (w.alloc (.map #[] 0)) := al (Below.refl _ _) _
 have x2 := below_of_grown h2
 refine ⟨(MpAt.made k w).below x2, ?_, OwnN.nil _ _, fun b _ h => (by cases h), Nat.le_refl _, NumF.nil, Nat.zero_le _, bt x0 x2 (Nat.le_refl _), fun b h => (by cases h)⟩
 unfold OwnN
 rw [made_nums] at h1
 simpa using h1
theorem slotN {w : World} {base g N : Nat} {L : List Nat} (h : OwnN w base (.slice (some ⟨g, 0, none⟩) N N) L) {i : Nat} (hi : i < L.length) : (∃ u, w.cell? ⟨g, i, none⟩ = some u) ∧ w.frozen? ⟨g, i, none⟩ = false := by
 refine ⟨⟨_, h.cell hi⟩, ?_⟩
 have hh : w.ownsRow base 3 1 (.slice (some ⟨g, 0, none⟩) N N) L.length (nCells L) := h
 have hn : N = L.length := by
  rcases hh.2 with ⟨e, e2⟩ | ⟨g', c', cur, e, _⟩
  · cases e
  · injection e with _ e2 _
 subst hn
 exact hh.frozenAt _
theorem one_int (W : World) (n : Nat) (T : TypeId) (j : Nat) (u : Value) (hu : ([.int .i64 (n : Nat)] : List Value)[j]? = some u) : (W.alloc (.cells #[.int .i64 (n : Nat)] T)).cell? ((⟨W.heap.size, 0, none⟩ : Addr).add j) = some u := by
 match j, hu with
 | 0, hu => simp at hu; subst hu; simp [Addr.add]
section
variable {k : TypeId} {w0 w w' : World} {lit : Nat → Lit} {N mb g : Nat} {v2 : Value} {num fst : List Nat}
theorem NmS.slot (h : NmS k w0 lit N mb (.slice (some ⟨g, 0, none⟩) N N) v2 num fst w) (hi : num.length < N) : (∃ u, w.cell? ⟨g, num.length, none⟩ = some u) ∧ w.frozen? ⟨g, num.length, none⟩ = false :=
 slotN h.o1 (by rw [List.length_append, List.length_replicate]; omega)
theorem NmS.hit (h : NmS k w0 lit N mb (.slice (some ⟨g, 0, none⟩) N N) v2 num fst w) (hi : num.length < N) {n : Nat} (hn : n < fst.length) (he : lit (gN fst n) = lit num.length) :
 NmS k w0 lit N mb (.slice (some ⟨g, 0, none⟩) N N) v2 (num ++ [n]) fst (w.setCell ⟨g, num.length, none⟩ (.int .i64 (n : Int))) := by
 obtain ⟨o1, k1⟩ := OwnN.store h.o1 num.length n
 rw [set_next num hi] at o1
 have hgb := (World.ownsRow.lt (show w.ownsRow w0.heap.size 3 1 (.slice (some ⟨g, 0, none⟩) N N) _ (nCells _) from h.o1) g rfl).1
 refine ⟨h.map.kept k1 (fun e => own_ne_map h.map h.o1 (by rw [e]; rfl)), o1, own_kept h.o2 k1 (fun b hb e => h.ap b (by rw [e]; rfl) hb), h.ap, h.mge, ?_, by rw [List.length_append, List.length_singleton]; omega, h.bel.trans (k1.below h.bel.size (fun i hi => by omega)), h.v2ne⟩
 rw [List.length_append, List.length_singleton]
 exact h.nf.hit hn he
structure NmP (k : TypeId) (w0 : World) (lit : Nat → Lit) (N mb g : Nat) (v2 : Value) (num fst : List Nat) (w : World) : Prop where
 map : MpAt k w mb (fst.map lit ++ [lit num.length])
 o1 : OwnN w w0.heap.size (.slice (some ⟨g, 0, none⟩) N N) (num ++ List.replicate (N - num.length) 0)
 o2 : OwnN w w0.heap.size v2 fst
 ap : ∀ b, (.slice (some ⟨g, 0, none⟩) N N : Value).ownBlock = some b → ¬ v2.ownBlock = some b
 mge : w0.heap.size ≤ mb
 nf : NumF lit (num.length + 1) (gN (num ++ [fst.length])) (gN (fst ++ [num.length])) (fst.length + 1)
 bel : Below w0.heap.size w0 w
theorem NmS.put (h : NmS k w0 lit N mb (.slice (some ⟨g, 0, none⟩) N N) v2 num fst w) {D : DataW Unit} (hm : lit num.length ∉ fst.map lit) (hk : WideAt.IsKeyLit (lit num.length)) (hh : ∀ kl, Maps.has D kl = true ↔ kl ∈ fst.map lit) (ha : ∀ i (h : i < (fst.map lit).length), D.atKey (fst.map lit)[i] (.lit (.int .i64 0)) = .lit (.int .i64 (i : Int)))
 (ho : w.ownsMap Tryz.prog k (plainElem Tryz.prog 3) mb (fst.map lit).length D) (h1 : w'.ownsMap Tryz.prog k (plainElem Tryz.prog 3) mb ((fst.map lit).length + 1) (D.put (lit num.length) (.lit (.int .i64 (fst.length : Int))))) (t4 : w.mapTurned w' mb) : NmP k w0 lit N mb g v2 num fst w' := by
 have k4 : Kept (fun b => b = mb) w w' := (kept_of_grown t4.grown).mono (fun b hb => by injection hb with hb; exact hb.symm)
 refine ⟨MpAt.put hk hm ho.isMap hh ha (by rw [List.length_map] at h1 ⊢; exact h1), own_kept h.o1 k4 (fun b hb e => own_ne_map h.map h.o1 (by rw [← e]; exact hb)), own_kept h.o2 k4 (fun b hb e => own_ne_map h.map h.o2 (by rw [← e]; exact hb)), h.ap, h.mge, h.nf.miss (fun i hi he => hm ?_), h.bel.trans (k4.below h.bel.size (fun i hi => by have := h.mge; omega))⟩
 rw [← he, gN_lt hi]
 exact List.mem_map.2 ⟨_, List.getElem_mem hi, rfl⟩
theorem NmP.x5 (w : World) (n : Nat) : Below w.heap.size w (w.alloc (.cells #[.int .i64 (n : Nat)] 3)) := al (Below.refl _ _) _
theorem NmP.o5 (h : NmP k w0 lit N mb g v2 num fst w) : (w.alloc (.cells #[.int .i64 (num.length : Nat)] 3)).ownsRow w0.heap.size 3 1 v2 fst.length (nCells fst) := own_below h.o2 (NmP.x5 _ _)
theorem NmP.s5 (h : NmP k w0 lit N mb g v2 num fst w) : w0.heap.size ≤ (w.alloc (.cells #[.int .i64 (num.length : Nat)] 3)).heap.size := Nat.le_trans h.bel.size (NmP.x5 w num.length).size
theorem NmP.app (h : NmP k w0 lit N mb g v2 num fst w) (hi : num.length < N) {v' : Value} {w6 : World} (g1 : w6.ownsRow w0.heap.size 3 1 v' (fst.length + 1) (nCells fst ++ [.int .i64 (num.length : Nat)])) (g2 : AppAt (w.alloc (.cells #[.int .i64 (num.length : Nat)] 3)) w6 v2 v') :
 ((∃ u, w6.cell? ⟨g, num.length, none⟩ = some u) ∧ w6.frozen? ⟨g, num.length, none⟩ = false) ∧ NmS k w0 lit N mb (.slice (some ⟨g, 0, none⟩) N N) v' (num ++ [fst.length]) (fst ++ [num.length]) (w6.setCell ⟨g, num.length, none⟩ (.int .i64 (fst.length : Int))) := by
 have x5 := NmP.x5 w num.length
 have o1 : OwnN (w.alloc (.cells #[.int .i64 (num.length : Nat)] 3)) w0.heap.size (.slice (some ⟨g, 0, none⟩) N N) (num ++ List.replicate (N - num.length) 0) := own_below h.o1 x5
 have m5 := h.map.below x5
 have b5 := bt h.bel x5 (Nat.le_refl _)
 have hk : ∃ F : Nat → Prop, Kept F (w.alloc (.cells #[.int .i64 (num.length : Nat)] 3)) w6 ∧ (∀ b, F b → v2.ownBlock = some b) := by
  rcases g2 with ⟨q, a, b, c⟩ | ⟨a, b⟩
  · exact ⟨fun b => some q = some b, kept_of_grown c, fun b hb => a.trans hb⟩
  · exact ⟨fun _ => False, Kept.of_below (below_of_grown a), fun b hb => hb.elim⟩
 obtain ⟨F, k6, hF⟩ := hk
 have o6 : OwnN w6 w0.heap.size (.slice (some ⟨g, 0, none⟩) N N) (num ++ List.replicate (N - num.length) 0) := own_kept o1 k6 (fun b hb hf => h.ap b hb (hF b hf))
 have m6 := m5.kept k6 (fun hf => own_ne_map m5 h.o5 (hF _ hf))
 have b6 : Below w0.heap.size w0 w6 := b5.trans (k6.below b5.size (fun i hf => (World.ownsRow.lt h.o5 i (hF i hf)).1))
 obtain ⟨o7, k7⟩ := OwnN.store o6 num.length fst.length
 rw [set_next num hi] at o7
 have hgl := World.ownsRow.lt (show w.ownsRow w0.heap.size 3 1 (.slice (some ⟨g, 0, none⟩) N N) _ (nCells _) from h.o1) g rfl
 have ap' : ∀ b, (.slice (some ⟨g, 0, none⟩) N N : Value).ownBlock = some b → ¬ v'.ownBlock = some b := fun b hb hv => by
  rcases g2 with ⟨q, a, c, _⟩ | ⟨_, c⟩
  · exact h.ap b hb (by rw [a, ← c]; exact hv)
  · have := c b hv
    have hb' : g = b := Option.some.inj hb
    have := x5.size
    omega
 refine ⟨slotN o6 (by rw [List.length_append, List.length_replicate]; omega), m6.kept k7 (fun e => own_ne_map m6 o6 (by rw [e]; rfl)) |> fun m => by rw [List.map_append]; exact m, o7, ?_, ap', h.mge, ?_, by rw [List.length_append, List.length_singleton]; omega, b6.trans (k7.below b6.size (fun i hi => by omega)), fun b hb e => own_ne_map m6 g1 (by rw [← e]; exact hb)⟩
 · unfold OwnN
   rw [nCells_snoc, List.length_append, List.length_singleton]
   exact own_kept g1 k7 (fun b hb e => ap' b (by rw [e]; rfl) hb)
 · rw [List.length_append, List.length_append, List.length_singleton]
   exact h.nf
end
theorem numI_any (N : Nat) (c0 : Value) (look : Nat → Value) (lit : Nat → Lit) (w : World) (hN : N ≤ 4294967296) (hk : ∀ i, i < N → keyOf Tryz.prog 3 (look i) = some (lit i)) (hkl : ∀ i, i < N → WideAt.IsKeyLit (lit i))
 (hc : ∀ i, i < N → ∀ W, Below w.heap.size w W → Calls Tryz.prog 121 #[.int .i64 (i : Nat), c0] W fun e w' => e = .returned (look i) ∧ Below W.heap.size W w') :
 Calls Tryz.prog 120 #[.int .i64 (N : Nat), .func (.func 121) #[] #[c0]] w fun e w' => (∃ v1 v2, e = .returned (.tuple #[v1, v2]) ∧ ∃ num fst, NmDone w.heap.size lit N v1 v2 num fst w') ∧ Below w.heap.size w w' := by
 obtain ⟨i3, hi3, hz30, hz31, hz32⟩ := info_parts Tryz.info3n
 have hz0 : ∀ W, (zeroValue 3).run Tryz.prog W = .ok (.int .i64 0) W := fun W => Tryz.zeroValue3 W
 have hmm : ∀ W : World, (Instr.makeMap 192 none).run Tryz.prog W = .ok (.map (some W.heap.size)) (W.alloc (.map #[] 0)) := fun W => rfl
 have HC := hide hc
 have HK := hide hk
 have HKL := hide hkl
 clear hc hk hkl
 have S0 := hide (fun w2 h1 h2 => NmS.start 3 w lit N w2 h1 h2)
 go_enter Tryz.func120, Tryz.ntmps120
 go_wp2_with (at_make; refine wpList_make_full _ rfl (.tmp 12) (.tmp 12) 22 rfl w.heap.size 3 i3 (.int .i64 0) 1 Tryz.underlying22 hi3 hz30 hz31 .i64 .i64 _ _ N rfl rfl rfl rfl (by rw [hz32]; omega) (by unfold maxLen; omega) (by simp) ?_; intro w2 h1 h2; have S1 := hide (S0.out w2 h1 h2); clear h1 h2)
 go_loopg [5, 15] (N + 1) (fun g v2 x wr => ∃ (num fst : List Nat), x = .int .i64 (num.length : Nat) ∧ Hid (NmS 3 w lit N w.heap.size (.slice (some ⟨w.heap.size + 1, 0, none⟩) N N) v2 num fst wr) ∧ N - num.length < g)
 case atStart => exact ⟨[], [], rfl, S1, by simp⟩
 case round =>
  obtain ⟨num, fst, rfl, S, hg⟩ := hrel
  have HG := hide hg
  clear hg S1 S0
  have hle := S.out.le
  obtain ⟨a2, k2, hv2, _⟩ := own_shape S.out.o2
  subst hv2
  by_cases hi : num.length < N
  · have hi' : (num.length : Int) < (N : Int) := by omega
    have H1 := hide (HC.out num.length hi wr S.out.bel)
    go_wp2_with (fail)
    refine H1.out.mono ?_
    rintro e w3 ⟨rfl, x3⟩
    clear H1
    have S3 := hide (S.out.below x3)
    clear x3
    obtain ⟨D, hown, hh, ha⟩ := S3.out.map
    have HK1 := hide (HK.out num.length hi)
    have HOWN := hide hown
    have HA := hide ha
    have hfl : fst.length ≤ num.length := by
     have h := S3.out.nf
     exact pigeon num.length fst.length (gN fst) h.fstlt (fun i h1 j h2 e => by rw [← h.numfst i h1, ← h.numfst j h2, e])
    by_cases hm : lit num.length ∈ fst.map lit
    · have hhas : Maps.has D (lit num.length) = true := (hh _).2 hm
      have HHIT : Hid (∀ c : Int, D.atKey (lit num.length) (.lit (.int .i64 0)) = .lit (.int .i64 c) → ∃ n, n < fst.length ∧ lit (gN fst n) = lit num.length ∧ c = (n : Int)) := fun c hc => by
       obtain ⟨n, hn, e, rfl⟩ := atKey_lit HA.out hc hm
       rw [List.length_map] at hn
       refine ⟨n, hn, ?_, rfl⟩
       rw [← e, List.getElem_map, gN_lt hn]
      obtain ⟨⟨u1, q1⟩, q2⟩ := S3.out.slot hi
      have HST := hide (fun n hn he => S3.out.hit (n := n) hi hn he)
      go_wp2_with (at_lookup; refine wpList_lookup_own_ok_int _ rfl _ _ 192 rfl 3 3 .i64 (int_keyed Tryz.underlying3) Tryz.underlying192 Tryz.underlying3 (hz0 _) w.heap.size _ D rfl HOWN.out _ _ rfl HK1.out ?_; intro c hat hwc; obtain ⟨n, hn, hne, rfl⟩ := HHIT.out c hat; have S4 := hide (HST.out n hn hne); clear hat hwc hn hne)
      go_roundg (N - (num.length + 1) + 1)
      case measure => have := HG.out; omega
      case rel => exact ⟨num ++ [n], fst, by simp, S4, by simp⟩
    · have hhas : Maps.has D (lit num.length) = false := by
       cases hx : Maps.has D (lit num.length) with
       | false => rfl
       | true => exact absurd ((hh _).1 hx) hm
      have HPL : Hid (plainElem (H := Unit) Tryz.prog 3 (.int .i64 (fst.length : Int)) = some (.lit (.int .i64 (fst.length : Int)), [])) := plainElem_int Tryz.underlying3 (by simp [Lit.wf, IntKind.min, IntKind.max, IntKind.signed, IntKind.bits]; omega)
      have HFN : Hid ((fst.map lit).length < maxLen) := by unfold Hid maxLen; rw [List.length_map]; omega
      have HPUT := hide (fun (w4 : World) h1 (t4 : w3.mapTurned w4 w.heap.size) => S3.out.put (w' := w4) hm (HKL.out _ hi) hh ha HOWN.out h1 t4)
      go_wp2_with (first
       | (at_lookup; refine wpList_lookup_own_ok_int _ rfl _ _ 192 rfl 3 3 .i64 (int_keyed Tryz.underlying3) Tryz.underlying192 Tryz.underlying3 (hz0 _) w.heap.size _ D rfl HOWN.out _ _ rfl HK1.out ?_; intro c hat hwc; clear hat hwc)
       | (at_mapUpdate; refine wpList_mapUpdate_in _ rfl _ _ _ 192 rfl 3 3 (int_keyed Tryz.underlying3) Tryz.underlying192 _ w.heap.size _ D rfl HOWN.out HFN.out _ _ _ rfl rfl HK1.out _ [] HPL.out ?_; intro w4 h4 t4; have S4 := hide (HPUT.out w4 h4 t4); have O5 := hide S4.out.o5; have HN5 := hide (one_int w4 num.length 3); have HS5 : Hid (w.heap.size ≤ (w4.alloc (.cells #[.int .i64 (num.length : Nat)] 3)).heap.size) := S4.out.s5; clear h4 t4)
       | (at_builtin; refine wpList_append_view rfl (.tmp 34) (.tmp 36) 22 rfl w.heap.size 3 i3 (.int .i64 0) 1 8 Tryz.underlying22 hi3 hz30 hz31 hz32 rfl (by decide) _ fst.length (nCells fst) rfl O5.out ⟨w4.heap.size, 0, none⟩ 1 1 [.int .i64 (num.length : Nat)] rfl rfl HN5.out (by simp [Value.oneCell']) (by decide) (by unfold maxLen; omega) (by omega) HS5.out ?_; intro v6 w6 g1 g2; obtain ⟨⟨⟨u6, q1⟩, q2⟩, S6⟩ := S4.out.app hi g1 g2; have S6 := hide S6; clear g1 g2))
      go_roundg (N - (num.length + 1) + 1)
      case measure => have := HG.out; omega
      case rel => exact ⟨num ++ [fst.length], fst ++ [num.length], by simp, S6, by simp⟩
  · have hi' : ¬ (num.length : Int) < (N : Int) := by omega
    go_wp2
    go_ret2
    refine ⟨⟨_, _, rfl, num, fst, ?_⟩, S.out.bel⟩
    have e : num.length = N := by omega
    have h1 := S.out.o1
    rw [e, Nat.sub_self, List.replicate_zero, List.append_nil] at h1
    exact ⟨h1, S.out.o2, S.out.ap, e, by have := S.out.nf; rw [e] at this; exact this⟩
theorem numB_any (N : Nat) (c0 : Value) (look : Nat → Value) (lit : Nat → Lit) (w : World) (hN : N ≤ 4294967296) (hk : ∀ i, i < N → keyOf Tryz.prog 5 (look i) = some (lit i)) (hkl : ∀ i, i < N → WideAt.IsKeyLit (lit i))
 (hc : ∀ i, i < N → ∀ W, Below w.heap.size w W → Calls Tryz.prog 112 #[.int .i64 (i : Nat), c0] W fun e w' => e = .returned (look i) ∧ Below W.heap.size W w') :
 Calls Tryz.prog 111 #[.int .i64 (N : Nat), .func (.func 112) #[] #[c0]] w fun e w' => (∃ v1 v2, e = .returned (.tuple #[v1, v2]) ∧ ∃ num fst, NmDone w.heap.size lit N v1 v2 num fst w') ∧ Below w.heap.size w w' := by
 obtain ⟨i3, hi3, hz30, hz31, hz32⟩ := info_parts Tryz.info3n
 have hz0 : ∀ W, (zeroValue 3).run Tryz.prog W = .ok (.int .i64 0) W := fun W => Tryz.zeroValue3 W
 have hmm : ∀ W : World, (Instr.makeMap 186 none).run Tryz.prog W = .ok (.map (some W.heap.size)) (W.alloc (.map #[] 0)) := fun W => rfl
 have HC := hide hc
 have HK := hide hk
 have HKL := hide hkl
 clear hc hk hkl
 have S0 := hide (fun w2 h1 h2 => NmS.start 5 w lit N w2 h1 h2)
 go_enter Tryz.func111, Tryz.ntmps111
 go_wp2_with (at_make; refine wpList_make_full _ rfl (.tmp 12) (.tmp 12) 22 rfl w.heap.size 3 i3 (.int .i64 0) 1 Tryz.underlying22 hi3 hz30 hz31 .i64 .i64 _ _ N rfl rfl rfl rfl (by rw [hz32]; omega) (by unfold maxLen; omega) (by simp) ?_; intro w2 h1 h2; have S1 := hide (S0.out w2 h1 h2); clear h1 h2)
 go_loopg [5, 15] (N + 1) (fun g v2 x wr => ∃ (num fst : List Nat), x = .int .i64 (num.length : Nat) ∧ Hid (NmS 5 w lit N w.heap.size (.slice (some ⟨w.heap.size + 1, 0, none⟩) N N) v2 num fst wr) ∧ N - num.length < g)
 case atStart => exact ⟨[], [], rfl, S1, by simp⟩
 case round =>
  obtain ⟨num, fst, rfl, S, hg⟩ := hrel
  have HG := hide hg
  clear hg S1 S0
  have hle := S.out.le
  obtain ⟨a2, k2, hv2, _⟩ := own_shape S.out.o2
  subst hv2
  by_cases hi : num.length < N
  · have hi' : (num.length : Int) < (N : Int) := by omega
    have H1 := hide (HC.out num.length hi wr S.out.bel)
    go_wp2_with (fail)
    refine H1.out.mono ?_
    rintro e w3 ⟨rfl, x3⟩
    clear H1
    have S3 := hide (S.out.below x3)
    clear x3
    obtain ⟨D, hown, hh, ha⟩ := S3.out.map
    have HK1 := hide (HK.out num.length hi)
    have HOWN := hide hown
    have HA := hide ha
    have hfl : fst.length ≤ num.length := by
     have h := S3.out.nf
     exact pigeon num.length fst.length (gN fst) h.fstlt (fun i h1 j h2 e => by rw [← h.numfst i h1, ← h.numfst j h2, e])
    by_cases hm : lit num.length ∈ fst.map lit
    · have hhas : Maps.has D (lit num.length) = true := (hh _).2 hm
      have HHIT : Hid (∀ c : Int, D.atKey (lit num.length) (.lit (.int .i64 0)) = .lit (.int .i64 c) → ∃ n, n < fst.length ∧ lit (gN fst n) = lit num.length ∧ c = (n : Int)) := fun c hc => by
       obtain ⟨n, hn, e, rfl⟩ := atKey_lit HA.out hc hm
       rw [List.length_map] at hn
       refine ⟨n, hn, ?_, rfl⟩
       rw [← e, List.getElem_map, gN_lt hn]
      obtain ⟨⟨u1, q1⟩, q2⟩ := S3.out.slot hi
      have HST := hide (fun n hn he => S3.out.hit (n := n) hi hn he)
      go_wp2_with (at_lookup; refine wpList_lookup_own_ok_int _ rfl _ _ 186 rfl 5 3 .i64 (int_keyed Tryz.underlying5) Tryz.underlying186 Tryz.underlying3 (hz0 _) w.heap.size _ D rfl HOWN.out _ _ rfl HK1.out ?_; intro c hat hwc; obtain ⟨n, hn, hne, rfl⟩ := HHIT.out c hat; have S4 := hide (HST.out n hn hne); clear hat hwc hn hne)
      go_roundg (N - (num.length + 1) + 1)
      case measure => have := HG.out; omega
      case rel => exact ⟨num ++ [n], fst, by simp, S4, by simp⟩
    · have hhas : Maps.has D (lit num.length) = false := by
       cases hx : Maps.has D (lit num.length) with
       | false => rfl
       | true => exact absurd ((hh _).1 hx) hm
      have HPL : Hid (plainElem (H := Unit) Tryz.prog 3 (.int .i64 (fst.length : Int)) = some (.lit (.int .i64 (fst.length : Int)), [])) := plainElem_int Tryz.underlying3 (by simp [Lit.wf, IntKind.min, IntKind.max, IntKind.signed, IntKind.bits]; omega)
      have HFN : Hid ((fst.map lit).length < maxLen) := by unfold Hid maxLen; rw [List.length_map]; omega
      have HPUT := hide (fun (w4 : World) h1 (t4 : w3.mapTurned w4 w.heap.size) => S3.out.put (w' := w4) hm (HKL.out _ hi) hh ha HOWN.out h1 t4)
      go_wp2_with (first
       | (at_lookup; refine wpList_lookup_own_ok_int _ rfl _ _ 186 rfl 5 3 .i64 (int_keyed Tryz.underlying5) Tryz.underlying186 Tryz.underlying3 (hz0 _) w.heap.size _ D rfl HOWN.out _ _ rfl HK1.out ?_; intro c hat hwc; clear hat hwc)
       | (at_mapUpdate; refine wpList_mapUpdate_in _ rfl _ _ _ 186 rfl 5 3 (int_keyed Tryz.underlying5) Tryz.underlying186 _ w.heap.size _ D rfl HOWN.out HFN.out _ _ _ rfl rfl HK1.out _ [] HPL.out ?_; intro w4 h4 t4; have S4 := hide (HPUT.out w4 h4 t4); have O5 := hide S4.out.o5; have HN5 := hide (one_int w4 num.length 3); have HS5 : Hid (w.heap.size ≤ (w4.alloc (.cells #[.int .i64 (num.length : Nat)] 3)).heap.size) := S4.out.s5; clear h4 t4)
       | (at_builtin; refine wpList_append_view rfl (.tmp 34) (.tmp 36) 22 rfl w.heap.size 3 i3 (.int .i64 0) 1 8 Tryz.underlying22 hi3 hz30 hz31 hz32 rfl (by decide) _ fst.length (nCells fst) rfl O5.out ⟨w4.heap.size, 0, none⟩ 1 1 [.int .i64 (num.length : Nat)] rfl rfl HN5.out (by simp [Value.oneCell']) (by decide) (by unfold maxLen; omega) (by omega) HS5.out ?_; intro v6 w6 g1 g2; obtain ⟨⟨⟨u6, q1⟩, q2⟩, S6⟩ := S4.out.app hi g1 g2; have S6 := hide S6; clear g1 g2))
      go_roundg (N - (num.length + 1) + 1)
      case measure => have := HG.out; omega
      case rel => exact ⟨num ++ [fst.length], fst ++ [num.length], by simp, S6, by simp⟩
  · have hi' : ¬ (num.length : Int) < (N : Int) := by omega
    go_wp2
    go_ret2
    refine ⟨⟨_, _, rfl, num, fst, ?_⟩, S.out.bel⟩
    have e : num.length = N := by omega
    have h1 := S.out.o1
    rw [e, Nat.sub_self, List.replicate_zero, List.append_nil] at h1
    exact ⟨h1, S.out.o2, S.out.ap, e, by have := S.out.nf; rw [e] at this; exact this⟩
def dfA (bs : By) (NX OU : List Nat) : DF := ⟨OU.length, NX.length / OU.length, fun b => (bs.getD b 0).toNat, fun s c => gN NX (s * (NX.length / OU.length) + c), fun s => ((gN OU s : Nat) : Int)⟩
structure MayA (bs : By) (NX OU : List Nat) : Prop where
 bl : bs.length = 256
 n0 : 0 < OU.length
 n1 : OU.length ≤ 65536
 wl : NX.length = OU.length * (NX.length / OU.length)
 bw : ∀ b, b < 256 → (bs.getD b 0).toNat < NX.length / OU.length
 w1 : NX.length / OU.length ≤ 256
 nl : ∀ x ∈ NX, x < OU.length
 lb : ∀ x ∈ OU, x ≤ 65535
section
variable {bs : By} {NX OU : List Nat}
theorem MayA.at (h : MayA bs NX OU) {s c : Nat} (hs : s < OU.length) (hc : c < NX.length / OU.length) : s * (NX.length / OU.length) + c < NX.length := by
 have := at_lt hs hc
 rw [← h.wl] at this
 exact this
theorem MayA.ok (h : MayA bs NX OU) : (dfA bs NX OU).Ok :=
 ⟨h.n0, Nat.lt_of_le_of_lt (Nat.zero_le _) (h.bw 0 (by decide)), h.bw, fun s hs c hc => by
   have hq := h.at hs hc
   show gN NX _ < OU.length
   rw [gN_lt hq]
   exact h.nl _ (List.getElem_mem hq)⟩
theorem MayA.nxl (h : MayA bs NX OU) : NX.length ≤ 16777216 := by
 have h1 := Nat.mul_le_mul h.n1 h.w1
 rw [← h.wl] at h1
 omega
end
structure RcM (bs : By) (NX OU : List Nat) (base : Nat) (w0 : World) (cv fv nv mv : Value) (col fst : List Nat) (sv xv ov : Value) (St X O : List Nat) (i j : Nat) (w : World) : Prop where
 ex : ∃ (Nm : List Nat) (Mt : List Bool), Rws w base [(cv, col), (fv, fst), (nv, Nm), (sv, St), (xv, X), (ov, O)] ∧ OwnB w base mv Mt ∧ (Nm.length = OU.length ∧ Mt.length = OU.length ∧ (∀ a, a < St.length → gN Nm (gN St a) = a) ∧ ∀ x, x < OU.length → (Mt.getD x false = true ↔ ∃ a, a < St.length ∧ gN St a = x))
 rc : RcS (dfA bs NX OU) fst St X i j
 out : O = (St.take i).map (gN OU)
 bel : Below base w0 w
 fl : fst.length ≤ 256
section
variable {bs : By} {NX OU : List Nat} {base : Nat} {w0 w w' : World} {cv fv nv mv sv xv ov : Value} {col fst St X O : List Nat} {i j : Nat}
theorem RcM.below (h : RcM bs NX OU base w0 cv fv nv mv col fst sv xv ov St X O i j w) (hb : base ≤ w0.heap.size) (x : Below w.heap.size w w') : RcM bs NX OU base w0 cv fv nv mv col fst sv xv ov St X O i j w' := by
 obtain ⟨Nm, Mt, h1, h2, h3⟩ := h.ex
 exact ⟨⟨Nm, Mt, h1.below x, own_below h2 x, h3⟩, h.rc, h.out, h.bel.trans (x.mono (Nat.le_trans hb h.bel.size)), h.fl⟩
theorem RcM.bound (h : RcM bs NX OU base w0 cv fv nv mv col fst sv xv ov St X O i j w) (hi : i < St.length ∨ j = 0) : St.length ≤ OU.length ∧ X.length ≤ OU.length * 256 := by
 have h1 : St.length ≤ OU.length := pigeon OU.length St.length (gN St) h.rc.lt h.rc.nd
 refine ⟨h1, ?_⟩
 have h2 := h.rc.len
 have h3 := h.rc.il
 have h4 := h.rc.jl
 have h5 := h.fl
 rcases hi with hi | hi
 · have : (i + 1) * fst.length ≤ OU.length * 256 := Nat.mul_le_mul (by omega) h5
   rw [Nat.succ_mul] at this
   omega
 · have : i * fst.length ≤ OU.length * 256 := Nat.mul_le_mul (by omega) h5
   omega
structure RcP (bs : By) (NX OU : List Nat) (base : Nat) (w0 : World) (cv fv nv mv : Value) (col fst : List Nat) (sv xv ov : Value) (St X O : List Nat) (i j x v : Nat) (w : World) : Prop where
 ex : ∃ (Nm : List Nat) (Mt : List Bool), Rws w base [(cv, col), (fv, fst), (nv, Nm), (sv, St), (xv, X), (ov, O)] ∧ OwnB w base mv Mt ∧ (Nm.length = OU.length ∧ Mt.length = OU.length ∧ (∀ a, a < St.length → gN Nm (gN St a) = a) ∧ ∀ x, x < OU.length → (Mt.getD x false = true ↔ ∃ a, a < St.length ∧ gN St a = x)) ∧ gN Nm x = v
 rc : RcS (dfA bs NX OU) fst St (X ++ [v]) i (j + 1)
 out : O = (St.take i).map (gN OU)
 bel : Below base w0 w
 fl : fst.length ≤ 256
 xl : x < OU.length
theorem RcP.below {x v : Nat} (h : RcP bs NX OU base w0 cv fv nv mv col fst sv xv ov St X O i j x v w) (hb : base ≤ w0.heap.size) (y : Below w.heap.size w w') : RcP bs NX OU base w0 cv fv nv mv col fst sv xv ov St X O i j x v w' := by
 obtain ⟨Nm, Mt, h1, h2, h3⟩ := h.ex
 exact ⟨⟨Nm, Mt, h1.below y, own_below h2 y, h3⟩, h.rc, h.out, h.bel.trans (y.mono (Nat.le_trans hb h.bel.size)), h.fl, h.xl⟩
theorem RcP.app {x v : Nat} (h : RcP bs NX OU base w0 cv fv nv mv col fst sv xv ov St X O i j x v w) (hb : base ≤ w0.heap.size) {w5 : World} (x5 : Below w.heap.size w w5) {xv' : Value} (h1 : w'.ownsRow base 3 1 xv' (X.length + 1) (nCells X ++ [.int .i64 (v : Int)])) (h2 : AppAt w5 w' xv xv') :
 RcM bs NX OU base w0 cv fv nv mv col fst sv xv' ov St (X ++ [v]) O i (j + 1) w' := by
 have h5 := h.below hb x5
 obtain ⟨Nm, Mt, r1, r2, r3, _⟩ := h5.ex
 have r1' := r1.app (i := 4) (by simp) (L := X) h1 h2
 obtain ⟨F, k6, hF⟩ : ∃ F : Nat → Prop, Kept F w5 w' ∧ (∀ b, F b → xv.ownBlock = some b) := by
  rcases h2 with ⟨q, a, b, c⟩ | ⟨a, b⟩
  · exact ⟨fun b => some q = some b, kept_of_grown c, fun b hb => a.trans hb⟩
  · exact ⟨fun _ => False, Kept.of_below (below_of_grown a), fun b hb => hb.elim⟩
 have ox : w5.ownsRow base 3 1 xv X.length (nCells X) := r1.own 4 (by simp)
 refine ⟨⟨Nm, Mt, r1', own_kept r2 k6 (fun b hb hf => own_ne r2 ox (by decide) b hb (hF b hf)), r3⟩, h.rc, h.out, h5.bel.trans (k6.below (Nat.le_trans hb h5.bel.size) (fun b hf => (World.ownsRow.lt ox b (hF b hf)).1)), h.fl⟩
theorem RcM.met (h : RcM bs NX OU base w0 cv fv nv mv col fst sv xv ov St X O i j w) (hj : j < fst.length) {x : Nat} (hx : x < OU.length) (he : x = (dfA bs NX OU).step (gN St i) (gN fst j)) (hm : ∃ a, a < St.length ∧ gN St a = x) : ∃ v, v < St.length ∧ RcP bs NX OU base w0 cv fv nv mv col fst sv xv ov St X O i j x v w := by
 obtain ⟨Nm, Mt', r1, r2, r3⟩ := h.ex
 obtain ⟨a, ha, e⟩ := hm
 refine ⟨a, ha, ⟨Nm, Mt', r1, r2, r3, ?_⟩, h.rc.old hj ha (by rw [e]; exact he), h.out, h.bel, h.fl, hx⟩
 rw [← e]
 exact r3.2.2.1 a ha
theorem RcM.new {gm gn nm nn : Nat} (h : RcM bs NX OU base w0 cv fv (.slice (some ⟨gn, 0, none⟩) nn nn) (.slice (some ⟨gm, 0, none⟩) nm nm) col fst sv xv ov St X O i j w) (hb : base ≤ w0.heap.size) (hi : i < St.length) (hj : j < fst.length) {x : Nat} (hx : x < OU.length) (he : x = (dfA bs NX OU).step (gN St i) (gN fst j)) (hm : ¬ ∃ a, a < St.length ∧ gN St a = x) :
 ∃ (wB : World), wB = (w.setCell ⟨gm, x, none⟩ (.bool true)).setCell ⟨gn, x, none⟩ (.int .i64 (St.length : Int)) ∧ (∃ u, w.cell? ⟨gm, x, none⟩ = some u) ∧ w.frozen? ⟨gm, x, none⟩ = false ∧ (∃ u, (w.setCell ⟨gm, x, none⟩ (.bool true)).cell? ⟨gn, x, none⟩ = some u) ∧ (w.setCell ⟨gm, x, none⟩ (.bool true)).frozen? ⟨gn, x, none⟩ = false ∧
 wB.ownsRow base 3 1 sv St.length (nCells St) ∧ Below base w0 wB ∧
 ∀ (w5 w6 : World) (sv' : Value), Below wB.heap.size wB w5 → w6.ownsRow base 3 1 sv' (St.length + 1) (nCells St ++ [.int .i64 (x : Int)]) → AppAt w5 w6 sv sv' → RcP bs NX OU base w0 cv fv (.slice (some ⟨gn, 0, none⟩) nn nn) (.slice (some ⟨gm, 0, none⟩) nm nm) col fst sv' xv ov (St ++ [x]) X O i j x St.length w6 := by
 obtain ⟨Nm, Mt, r1, r2, r3, r4, r5, r6⟩ := h.ex
 obtain ⟨m1, m2⟩ := r2.cell (i := x) (by omega)
 obtain ⟨o1, k1⟩ := r2.store x true
 have hne : ∀ q (hq : q < 6), ∀ b, (([(cv, col), (fv, fst), (.slice (some ⟨gn, 0, none⟩) nn nn, Nm), (sv, St), (xv, X), (ov, O)] : List RN)[q]'hq).1.ownBlock = some b → ¬ b = gm := fun q hq b hb' e => by
  have oo : w.ownsRow base 3 1 _ _ (nCells _) := r1.own q hq
  exact own_ne oo r2 (by decide) b hb' (by rw [e]; rfl)
 have r1b := r1.kept k1 (fun q hq b hb' => hne q hq b hb')
 have on : OwnN (w.setCell ⟨gm, x, none⟩ (.bool true)) base (.slice (some ⟨gn, 0, none⟩) nn nn) Nm := r1b.own 2 (by simp)
 obtain ⟨n1, n2⟩ := on.slot (i := x) (by omega)
 have r1c := r1b.store (i := 2) (by simp) (g := gn) (n := nn) (cap := nn) (L := Nm) rfl x St.length
 have k2 : Kept (fun k => k = gn) (w.setCell ⟨gm, x, none⟩ (.bool true)) ((w.setCell ⟨gm, x, none⟩ (.bool true)).setCell ⟨gn, x, none⟩ (.int .i64 (St.length : Int))) := Kept.setCell (F := fun k => k = gn) (Kept.refl _ _) rfl _
 have o2 : OwnB ((w.setCell ⟨gm, x, none⟩ (.bool true)).setCell ⟨gn, x, none⟩ (.int .i64 (St.length : Int))) base (.slice (some ⟨gm, 0, none⟩) nm nm) (Mt.set x true) := own_kept o1 k2 (fun b hb' e => own_ne o1 on (by decide) b hb' (by rw [e]; rfl))
 have hgm := (World.ownsRow.lt (show w.ownsRow base 4 1 (.slice (some ⟨gm, 0, none⟩) nm nm) _ _ from r2) gm rfl).1
 have hgn := (World.ownsRow.lt (show (w.setCell ⟨gm, x, none⟩ (.bool true)).ownsRow base 3 1 (.slice (some ⟨gn, 0, none⟩) nn nn) _ (nCells _) from on) gn rfl).1
 have b2 : Below base w0 ((w.setCell ⟨gm, x, none⟩ (.bool true)).setCell ⟨gn, x, none⟩ (.int .i64 (St.length : Int))) := (h.bel.setCell hgm _).setCell hgn _
 refine ⟨_, rfl, ⟨_, m1⟩, m2, ⟨_, n1⟩, n2, r1c.own 3 (by simp), b2, fun w5 w6 sv' x5 g1 g2 => ?_⟩
 have r1d := r1c.below x5
 have r1e := r1d.app (i := 3) (by simp) (L := St) g1 g2
 obtain ⟨F, k6, hF⟩ : ∃ F : Nat → Prop, Kept F w5 w6 ∧ (∀ b, F b → sv.ownBlock = some b) := by
  rcases g2 with ⟨q, a, b, c⟩ | ⟨a, b⟩
  · exact ⟨fun b => some q = some b, kept_of_grown c, fun b hb => a.trans hb⟩
  · exact ⟨fun _ => False, Kept.of_below (below_of_grown a), fun b hb => hb.elim⟩
 have os : w5.ownsRow base 3 1 sv St.length (nCells St) := r1d.own 3 (by simp)
 have o5 := own_below o2 x5
 have hxn : ∀ a, a < St.length → gN St a ≠ x := fun a ha e => hm ⟨a, ha, e⟩
 have gl : ∀ a, a < St.length → gN (St ++ [x]) a = gN St a := fun a ha => gN_left ha
 have hls : (St ++ [x]).length = St.length + 1 := by simp
 have gs : ∀ y, gN (Nm.set x St.length) y = if y = x then St.length else gN Nm y := fun y => by
  unfold gN
  rw [List.getD_eq_getElem?_getD, List.getD_eq_getElem?_getD, List.getElem?_set]
  by_cases hy : x = y
  · subst hy; simp [show x < Nm.length by omega]
  · rw [if_neg hy, if_neg (fun e => hy e.symm)]
 have b5 := b2.trans (x5.mono (Nat.le_trans hb b2.size))
 refine ⟨⟨Nm.set x St.length, Mt.set x true, r1e, own_kept o5 k6 (fun b hb' hf => own_ne o5 os (by decide) b hb' (hF b hf)), ⟨by rw [List.length_set]; exact r3, by rw [List.length_set]; exact r4, fun a ha => ?_, fun y hy => ?_⟩, by rw [gs x, if_pos rfl]⟩, h.rc.new hi hj hx hxn he, ?_, b5.trans (k6.below (Nat.le_trans hb b5.size) (fun b hf => (World.ownsRow.lt os b (hF b hf)).1)), h.fl, hx⟩
 · by_cases h2 : a < St.length
   · rw [gl a h2, gs, if_neg (hxn a h2)]; exact r5 a h2
   · obtain rfl : a = St.length := by omega
     rw [gN_last, gs, if_pos rfl]
 · by_cases hyx : y = x
   · subst hyx
     refine ⟨fun _ => ⟨St.length, by omega, gN_last _ _⟩, fun _ => ?_⟩
     rw [List.getD_eq_getElem?_getD, List.getElem?_set]
     simp [show y < Mt.length by omega]
   · rw [show (Mt.set x true).getD y false = Mt.getD y false by rw [List.getD_eq_getElem?_getD, List.getD_eq_getElem?_getD, List.getElem?_set, if_neg (fun e => hyx e.symm)], r6 y hy]
     refine ⟨fun ⟨a, ha, e⟩ => ⟨a, by omega, by rw [gl a ha]; exact e⟩, fun ⟨a, ha, e⟩ => ?_⟩
     by_cases h2 : a < St.length
     · exact ⟨a, h2, by rw [gl a h2] at e; exact e⟩
     · obtain rfl : a = St.length := by omega
       rw [gN_last] at e; exact absurd e.symm hyx
 · rw [h.out, List.take_append_of_le_length (by omega)]
theorem RcM.row (h : RcM bs NX OU base w0 cv fv nv mv col fst sv xv ov St X O i fst.length w) (hb : base ≤ w0.heap.size) (hi : i < St.length) {w5 : World} (x5 : Below w.heap.size w w5) {ov' : Value} (h1 : w'.ownsRow base 3 1 ov' (O.length + 1) (nCells O ++ [.int .i64 ((gN OU (gN St i) : Nat) : Int)])) (h2 : w5.grownBy w' ov.ownBlock) (h3 : ∀ b, ov'.ownBlock = some b → ov.ownBlock = some b ∨ w5.heap.size ≤ b) :
 RcM bs NX OU base w0 cv fv nv mv col fst sv xv ov' St X (O ++ [gN OU (gN St i)]) (i + 1) 0 w' := by
 have h5 := h.below hb x5
 obtain ⟨Nm, Mt, r1, r2, r3⟩ := h5.ex
 have k6 := kept_of_grown h2
 have oo : w5.ownsRow base 3 1 ov O.length (nCells O) := r1.own 5 (by simp)
 have r1' := r1.upd (i := 5) (by simp) (v' := ov') (L' := O ++ [gN OU (gN St i)]) (by unfold OwnN; rw [nCells_snoc, List.length_append, List.length_singleton]; exact h1) k6 (fun b hb' => hb') h3
 refine ⟨⟨Nm, Mt, r1', own_kept r2 k6 (fun b hb' hf => own_ne r2 oo (by decide) b hb' hf), r3⟩, h.rc.row hi, ?_, h5.bel.trans (k6.below (Nat.le_trans hb h5.bel.size) (fun b hf => (World.ownsRow.lt oo b hf).1)), h.fl⟩
 rw [h.out, List.take_succ_eq_append_getElem hi, List.map_append, gN_lt hi]
 rfl
theorem RcM.start {gm gn : Nat} {Nm : List Nat} {Mt : List Bool} (hr : Rws w base [(cv, col), (fv, fst), (.slice (some ⟨gn, 0, none⟩) OU.length OU.length, Nm), (sv, [0]), (xv, []), (ov, [])]) (hmt : OwnB w base (.slice (some ⟨gm, 0, none⟩) OU.length OU.length) Mt) (h0 : 0 < OU.length) (hN : Nm = List.replicate OU.length 0) (hM : Mt = (List.replicate OU.length false).set 0 true) (hbel : Below base w0 w) (hfl : fst.length ≤ 256) :
 RcM bs NX OU base w0 cv fv (.slice (some ⟨gn, 0, none⟩) OU.length OU.length) (.slice (some ⟨gm, 0, none⟩) OU.length OU.length) col fst sv xv ov [0] [] [] 0 0 w := by
 refine ⟨⟨Nm, Mt, hr, hmt, by rw [hN]; simp, by rw [hM]; simp, fun a ha => ?_, fun x hx => ?_⟩, RcS.start h0, rfl, hbel, hfl⟩
 · have : a = 0 := by simp at ha; omega
   subst this
   rw [hN]
   simp [gN, List.getD_eq_getElem?_getD, h0]
 · rw [hM, List.getD_eq_getElem?_getD, List.getElem?_set]
   by_cases hx0 : 0 = x
   · subst hx0
     rw [if_pos rfl]
     simp [h0]
     exact rfl
   · rw [if_neg hx0]
     simp [hx]
     intro e
     exact hx0 e
end
theorem st3 {W : World} {g : Nat} {a b c : Value} {T : TypeId} (B : W.heap[g]? = some (.cells #[a, b, c] T (0, 0))) (x y z : Value) :
 W.cell? ⟨g, 0, none⟩ = some a ∧ W.frozen? ⟨g, 0, none⟩ = false ∧ (W.setCell ⟨g, 0, none⟩ x).cell? ⟨g, 1, none⟩ = some b ∧ (W.setCell ⟨g, 0, none⟩ x).frozen? ⟨g, 1, none⟩ = false ∧ ((W.setCell ⟨g, 0, none⟩ x).setCell ⟨g, 1, none⟩ y).cell? ⟨g, 2, none⟩ = some c ∧ ((W.setCell ⟨g, 0, none⟩ x).setCell ⟨g, 1, none⟩ y).frozen? ⟨g, 2, none⟩ = false ∧
 (((W.setCell ⟨g, 0, none⟩ x).setCell ⟨g, 1, none⟩ y).setCell ⟨g, 2, none⟩ z).heap[g]? = some (.cells #[x, y, z] T (0, 0)) ∧ Kept (fun i => i = g) W (((W.setCell ⟨g, 0, none⟩ x).setCell ⟨g, 1, none⟩ y).setCell ⟨g, 2, none⟩ z) := by
 have B1 : (W.setCell ⟨g, 0, none⟩ x).heap[g]? = some (.cells #[x, b, c] T (0, 0)) := block_setCell B 0 x
 have B2 : ((W.setCell ⟨g, 0, none⟩ x).setCell ⟨g, 1, none⟩ y).heap[g]? = some (.cells #[x, y, c] T (0, 0)) := block_setCell B1 1 y
 have B3 : (((W.setCell ⟨g, 0, none⟩ x).setCell ⟨g, 1, none⟩ y).setCell ⟨g, 2, none⟩ z).heap[g]? = some (.cells #[x, y, z] T (0, 0)) := block_setCell B2 2 z
 refine ⟨by rw [cell_of_row _ _ _ _ _ _ B]; rfl, frozen_of_row _ _ 0 _ _ B, by rw [cell_of_row _ _ _ _ _ _ B1]; rfl, frozen_of_row _ _ 1 _ _ B1, by rw [cell_of_row _ _ _ _ _ _ B2]; rfl, frozen_of_row _ _ 2 _ _ B2, B3, ?_⟩
 exact Kept.setCell (F := fun i => i = g) (Kept.setCell (F := fun i => i = g) (Kept.setCell (F := fun i => i = g) (Kept.refl _ _) rfl _) rfl _) rfl _
end Go.Proofs.YtdgoilkgplnhfaaGreat
