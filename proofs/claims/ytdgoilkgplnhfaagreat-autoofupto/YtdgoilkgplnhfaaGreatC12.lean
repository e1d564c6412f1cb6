/-
  Where a column leads from each state, as the code's narrowed looks at it. Condition: at most 256 states.
-/
import Derived.Test.YtdgoilkgplnhfaaGreatC11
set_option maxRecDepth 100000
set_option maxHeartbeats 16000000
namespace Go.Proofs.YtdgoilkgplnhfaaGreat
open Go.RowKit Go.Lib Go.Maps
def ldB (NX : List Nat) (W c s : Nat) : List Nat := (List.range 256).map fun i => if i < s then gN NX (i * W + c) else 0
def mkB (B : List Nat) : Array Value := (B.map fun (b : Nat) => Value.int .u8 (b : Int)).toArray
theorem ldB_len (NX : List Nat) (W c s : Nat) : (ldB NX W c s).length = 256 := by simp [ldB]
theorem mkB_size (NX : List Nat) (W c s : Nat) : (mkB (ldB NX W c s)).size = 256 := by simp [mkB, ldB]
theorem mkB_all (B : List Nat) : (mkB B).all (·.oneCell') = true := by simp [mkB, Value.oneCell']
theorem ldB_zero (NX : List Nat) (W c : Nat) : mkB (ldB NX W c 0) = Array.replicate 256 (Value.int .u8 0) := by
 apply Array.ext
 · simp [mkB, ldB]
 · intro i h1 h2
   simp [mkB, ldB]
theorem ldB_get (NX : List Nat) (W c s i : Nat) (hi : i < 256) : gN (ldB NX W c s) i = if i < s then gN NX (i * W + c) else 0 := by
 rw [gN_lt (by rw [ldB_len]; exact hi)]
 simp [ldB]
theorem mkB_get (NX : List Nat) (W c s i : Nat) (hi : i < 256) : (mkB (ldB NX W c s))[i]? = some (.int .u8 ((if i < s then gN NX (i * W + c) else 0 : Nat) : Int)) := by
 have h : i < (ldB NX W c s).length := by rw [ldB_len]; exact hi
 unfold mkB
 rw [List.getElem?_toArray, List.getElem?_map, List.getElem?_eq_getElem h, ← gN_lt h, ldB_get _ _ _ _ _ hi]
 rfl
theorem mkB_set (NX : List Nat) (W c s : Nat) (hs : s < 256) : (mkB (ldB NX W c s)).set! s (.int .u8 ((gN NX (s * W + c) : Nat) : Int)) = mkB (ldB NX W c (s + 1)) := by
 apply Array.ext_getElem?
 intro i
 rw [Array.set!_eq_setIfInBounds, Array.getElem?_setIfInBounds]
 by_cases hi : i < 256
 · rw [mkB_get _ _ _ (s + 1) _ hi, mkB_size]
   by_cases e : s = i
   · subst e
     rw [if_pos rfl, if_pos hs, if_pos (Nat.lt_succ_self _)]
   · rw [if_neg e, mkB_get _ _ _ s _ hi]
     by_cases h2 : i < s
     · rw [if_pos h2, if_pos (by omega)]
     · rw [if_neg h2, if_neg (by omega)]
 · rw [if_neg (by omega), Array.getElem?_eq_none (by rw [mkB_size]; omega), Array.getElem?_eq_none (by rw [mkB_size]; omega)]
theorem narrowed1_any (bs : By) (na oa : Option Addr) (nc oc ol c W ab wb : Nat) (NX : List Nat) (w : World) (ho : ol ≤ 256) (hn : NX.length ≤ 16777216) (hat : ∀ s, s < ol → s * W + c < NX.length) (hv : ∀ t, t < NX.length → gN NX t < 256) (ha : w.heap[ab]? = some (.cells #[.string ⟨bs.toArray⟩, .slice na NX.length nc, .slice oa ol oc] 24 (0, 0))) (hw : w.cell? ⟨wb, 0, none⟩ = some (.int .i64 (W : Int))) (hwl : wb < w.heap.size) (hnx : NAt w na NX) :
 Calls Tryz.prog 119 #[.int .i64 (c : Nat), .pointer (some ⟨ab, 0, none⟩), .pointer (some ⟨wb, 0, none⟩)] w fun e w' => e = .returned (.agg (mkB (ldB NX W c ol))) ∧ Below w.heap.size w w' := by
 obtain ⟨hzv, hsz⟩ := zero_of_info Tryz.info169
 rw [← ldB_zero NX W c] at hzv
 obtain ⟨z, hz⟩ : ∃ z, z = mkB (ldB NX W c 0) := ⟨_, rfl⟩
 rw [← hz] at hzv
 have HZS : Hid (z.size = 256) := by unfold Hid; rw [hz, mkB_size]
 have HSZ := hide hsz
 have HZ := hide hz
 have hab := lt_of_block ha
 obtain ⟨w2, hw2, X2, B1, B2⟩ : ∃ w2, w2 = (w.alloc (.cells z 169)).alloc (.cells z 169) ∧ Below w.heap.size w w2 ∧ w2.heap[w.heap.size]? = some (.cells z 169 (0, 0)) ∧ w2.heap[w.heap.size + 1]? = some (.cells z 169 (0, 0)) := by
  have B1 := heap_alloc_new w (.cells z 169)
  have s1 : (w.alloc (.cells z 169)).heap.size = w.heap.size + 1 := by simp
  have hb1 : Below w.heap.size w (w.alloc (.cells z 169)) := al (Below.refl _ _) _
  generalize w.alloc (.cells z 169) = wa at *
  have B2 := heap_alloc_new wa (.cells z 169)
  have Y2 : Below wa.heap.size wa (wa.alloc (.cells z 169)) := al (Below.refl _ _) _
  rw [s1] at B2
  exact ⟨_, rfl, bt hb1 Y2 (Nat.le_refl _), (Y2.block _ (lt_of_block B1)).trans B1, B2⟩
 have HX2 := hide X2
 have HB1 := hide B1
 have B0 : Hid (w2.heap[w.heap.size + 1]? = some (.cells (mkB (ldB NX W c 0)) 169 (0, 0))) := by unfold Hid; rw [← hz]; exact B2
 have HC : Hid (∀ V, Below w.heap.size w V → V.cell? ⟨ab, 1, none⟩ = some (.slice na NX.length nc) ∧ V.cell? ⟨ab, 2, none⟩ = some (.slice oa ol oc) ∧ V.cell? ⟨wb, 0, none⟩ = some (.int .i64 (W : Int)) ∧ NAt V na NX) := fun V x => by
  have Bv := (x.block ab hab).trans ha
  exact ⟨by rw [cell_of_row _ _ _ _ _ _ Bv]; rfl, by rw [cell_of_row _ _ _ _ _ _ Bv]; rfl, (x.cell (p := ⟨wb, 0, none⟩) hwl).trans hw, hnx.below x⟩
 have HAT := hide hat
 have HV := hide hv
 obtain ⟨_, e2, _, _⟩ := HC.out w2 X2
 clear hz hsz X2 B1 B2 ha hw hnx hat hv
 go_enter Tryz.func119, Tryz.ntmps119
 go_upto_region 2 with fail
 rw [← hw2]
 clear hw2
 go_wp2
 go_loopg [10] (ol + 1) (fun g x wr => ∃ s : Nat, x = .int .i64 (s : Nat) ∧ Hid (wr.heap[w.heap.size + 1]? = some (.cells (mkB (ldB NX W c s)) 169 (0, 0))) ∧ Hid (wr.heap[w.heap.size]? = some (.cells z 169 (0, 0))) ∧ Hid (Below w.heap.size w wr) ∧ s ≤ ol ∧ ol - s < g)
 case atStart => exact ⟨0, rfl, B0, HB1, HX2, by omega, by omega⟩
 case round =>
  obtain ⟨s, rfl, BL, BR, X, hsl, hg⟩ := hrel
  have HG := hide hg
  clear hg B0 HB1 HX2 e2
  obtain ⟨e1, e2, e3, kn⟩ := HC.out wr X.out
  by_cases hs : s < ol
  · have hs' : (s : Int) < (ol : Int) := by omega
    have hq := HAT.out s hs
    have hx := HV.out _ hq
    obtain ⟨nb, off, rfl, _, cn⟩ := kn.get hq
    rw [← gN_lt hq] at cn
    have hsW : s * W ≤ 16777216 := by omega
    have f1 : IntKind.i64.wrap ((s : Int) * (W : Int)) = ((s * W : Nat) : Int) := by rw [show (s : Int) * (W : Int) = ((s * W : Nat) : Int) by simp]; exact w64_n _ (by omega)
    have f3 : IntKind.i64.wrap (((s * W : Nat) : Int) + (c : Int)) = ((s * W + c : Nat) : Int) := by rw [show ((s * W : Nat) : Int) + (c : Int) = ((s * W + c : Nat) : Int) by simp]; exact w64_n _ (by omega)
    have BS := block_setCell BL.out s (.int .u8 ((gN NX (s * W + c) : Nat) : Int))
    rw [mkB_set NX W c s (by omega)] at BS
    have k6 : Kept (fun b => b = w.heap.size + 1) wr (wr.setCell ⟨w.heap.size + 1, s, none⟩ (.int .u8 ((gN NX (s * W + c) : Nat) : Int))) := (Kept.refl (fun b => b = w.heap.size + 1) wr).setCell (p := ⟨w.heap.size + 1, s, none⟩) rfl _
    have BR6 := hide ((k6.block _ (lt_of_block BR.out) (by omega)).trans BR.out)
    have X6 := hide (X.out.trans (k6.below X.out.size (fun b hb => by omega)))
    have BL6 := hide BS
    have hcl : wr.cell? ⟨w.heap.size + 1, s, none⟩ = some (.int .u8 ((if s < s then gN NX (s * W + c) else 0 : Nat) : Int)) := by rw [cell_of_row _ _ _ _ _ _ BL.out]; exact mkB_get _ _ _ _ _ (by omega)
    obtain ⟨vz, hcl⟩ : ∃ v, wr.cell? ⟨w.heap.size + 1, s, none⟩ = some v := ⟨_, hcl⟩
    have hfz := frozen_of_row _ _ s _ _ BL.out
    clear BS k6
    generalize gN NX (s * W + c) = y at *
    generalize hm : s * W = m at *
    have hlt : (m : Int) + (c : Int) < (NX.length : Int) := by omega
    have hlt2 : ((m : Int) + (c : Int)).toNat = m + c := by omega
    have hlz : (0 : Int) ≤ (m : Int) + (c : Int) := by omega
    have u8w : IntKind.u8.wrap (y : Int) = (y : Int) := by simp [IntKind.wrap, IntKind.bits, IntKind.signed]; omega
    have s256 : (s : Int) < 256 := by omega
    clear hm
    go_wp2
    go_roundg (ol - (s + 1) + 1)
    case measure => have := HG.out; omega
    case rel => exact ⟨s + 1, by first | rfl | go_num | (congr 1; omega), BL6, BR6, X6, by omega, by omega⟩
  · have hs' : ¬ (s : Int) < (ol : Int) := by omega
    obtain rfl : s = ol := by omega
    have HI : Hid ((Tryz.prog.info? 169).map (·.size) = some (mkB (ldB NX W c s)).size) := by unfold Hid; rw [HSZ.out, mkB_size]
    have HZ2 : Hid (z.size = (mkB (ldB NX W c s)).size) := by unfold Hid; rw [HZS.out, mkB_size]
    have HAL := hide (mkB_all (ldB NX W c s))
    have HBN := hide (setRow_heap wr w.heap.size z (mkB (ldB NX W c s)) 169 (0, 0) BR.out)
    have HXN := hide (below_setRow X.out (Nat.le_refl _) (mkB (ldB NX W c s)))
    obtain ⟨m, hm⟩ : ∃ m, Hid (m = mkB (ldB NX W c s)) := ⟨_, rfl⟩
    rw [← hm.out] at HI HZ2 HAL HBN HXN BL
    clear hzv
    go_wp2_with (first
     | (refine wpList_load_row rfl 169 (.tmp 5) rfl (w.heap.size + 1) rfl 169 m (0, 0) _ BL.out Tryz.underlying169 rfl HI.out ?_)
     | (refine wpList_store_row rfl 169 (.tmp 4) (.tmp 27) rfl w.heap.size m rfl rfl 169 z BR.out HI.out HZ2.out HAL.out ?_))
    refine bodyPost_ret (v := .agg m) (results_cell_row rfl _ _ w.heap.size 169 m (0, 0) _ rfl HBN.out Tryz.underlying169 rfl HI.out) rfl ?_
    exact ⟨by rw [hm.out], HXN.out⟩
end Go.Proofs.YtdgoilkgplnhfaaGreat
namespace Go.Proofs.YtdgoilkgplnhfaaGreat
structure Rm where
 a : Nat
 m : Nat
 e : Nat
def gR (R : List Rm) (k : Nat) : Rm := R.getD k ⟨0, 0, 0⟩
theorem gR_set (R : List Rm) {k : Nat} (h : k < R.length) (x : Rm) (j : Nat) : gR (R.set k x) j = if j = k then x else gR R j := by
 unfold gR
 rw [List.getD_eq_getElem?_getD, List.getD_eq_getElem?_getD, List.getElem?_set]
 by_cases hj : k = j
 · subst hj; simp [h]
 · rw [if_neg hj, if_neg (fun e => hj e.symm)]
theorem gR_left {R : List Rm} {x : Rm} {i : Nat} (h : i < R.length) : gR (R ++ [x]) i = gR R i := by simp [gR, List.getD_eq_getElem?_getD, List.getElem?_append, h]
theorem gR_last (R : List Rm) (x : Rm) : gR (R ++ [x]) R.length = x := by simp [gR, List.getD_eq_getElem?_getD]
theorem gN_set (L : List Nat) {k : Nat} (h : k < L.length) (x j : Nat) : gN (L.set k x) j = if j = k then x else gN L j := by
 unfold gN
 rw [List.getD_eq_getElem?_getD, List.getD_eq_getElem?_getD, List.getElem?_set]
 by_cases hj : k = j
 · subst hj; simp [h]
 · rw [if_neg hj, if_neg (fun e => hj e.symm)]
structure PtS (n : Nat) (L P O : List Nat) (R : List Rm) : Prop where
 ll : L.length = n
 pl : P.length = n
 ol : O.length = n
 li : ∀ i, i < n → gN L i < n ∧ gN P (gN L i) = i
 pi : ∀ s, s < n → gN P s < n ∧ gN L (gN P s) = s
 os : ∀ s, s < n → gN O s < R.length ∧ (gR R (gN O s)).a ≤ gN P s ∧ gN P s < (gR R (gN O s)).e
 rm : ∀ k, k < R.length → (gR R k).a ≤ (gR R k).m ∧ (gR R k).m ≤ (gR R k).e ∧ (gR R k).a < (gR R k).e ∧ (gR R k).e ≤ n
 ro : ∀ k, k < R.length → ∀ i, (gR R k).a ≤ i → i < (gR R k).e → gN O (gN L i) = k
def MkS (n : Nat) (P O : List Nat) (R : List Rm) (M : Nat → Prop) : Prop := ∀ s, s < n → (M s ↔ gN P s < (gR R (gN O s)).m)
section
variable {n : Nat} {L P O : List Nat} {R : List Rm} {M : Nat → Prop}
theorem PtS.many (h : PtS n L P O R) : R.length ≤ n :=
 pigeon n R.length (fun k => (gR R k).a) (fun k hk => by have := h.rm k hk; omega) (fun i hi j hj e => by
  have h1 := h.rm i hi
  have h2 := h.rm j hj
  have e' : (gR R i).a = (gR R j).a := e
  rw [← h.ro i hi _ (Nat.le_refl _) h1.2.2.1, ← h.ro j hj _ (Nat.le_refl _) h2.2.2.1, e'])
theorem PtS.at (h : PtS n L P O R) (hM : MkS n P O R M) {s : Nat} (hs : s < n) (hn : ¬ M s) : gN O s < R.length ∧ gN P s < n ∧ (gR R (gN O s)).m ≤ gN P s ∧ (gR R (gN O s)).m < n ∧ gN L (gR R (gN O s)).m < n ∧ (gR R (gN O s)).m < (gR R (gN O s)).e ∧ (gR R (gN O s)).a ≤ (gR R (gN O s)).m := by
 have h1 := h.os s hs
 have h2 := h.pi s hs
 have h3 := h.rm _ h1.1
 have h4 : ¬ gN P s < (gR R (gN O s)).m := fun e => hn ((hM s hs).2 e)
 exact ⟨h1.1, h2.1, by omega, by omega, (h.li _ (by omega)).1, by omega, h3.1⟩
theorem PtS.mark (h : PtS n L P O R) (hM : MkS n P O R M) {s : Nat} (hs : s < n) (hn : ¬ M s) {r : Rm} (hr : gR R (gN O s) = r) {o : Nat} (ho : gN L r.m = o) :
 PtS n ((L.set r.m s).set (gN P s) o) ((P.set o (gN P s)).set s r.m) O (R.set (gN O s) ⟨r.a, r.m + 1, r.e⟩) ∧ MkS n ((P.set o (gN P s)).set s r.m) O (R.set (gN O s) ⟨r.a, r.m + 1, r.e⟩) (fun t => M t ∨ t = s) := by
 obtain ⟨h1, h2, h3, h4, h5, h6, h7⟩ := h.at hM hs hn
 rw [hr] at h3 h4 h5 h6 h7
 rw [ho] at h5
 have hos := h.os s hs
 rw [hr] at hos
 have hps := h.pi s hs
 have hrm := h.rm _ h1
 rw [hr] at hrm
 have ho2 := h.li r.m h4
 rw [ho] at ho2
 have hoo := h.ro _ h1 r.m (by rw [hr]; exact h7) (by rw [hr]; exact h6)
 rw [ho] at hoo
 have lS : ∀ i, gN ((L.set r.m s).set (gN P s) o) i = if i = gN P s then o else if i = r.m then s else gN L i := fun i => by
  rw [gN_set _ (by rw [List.length_set, h.ll]; exact h2), gN_set _ (by rw [h.ll]; exact h4)]
 have pS : ∀ t, gN ((P.set o (gN P s)).set s r.m) t = if t = s then r.m else if t = o then gN P s else gN P t := fun t => by
  rw [gN_set _ (by rw [List.length_set, h.pl]; exact hs), gN_set _ (by rw [h.pl]; exact h5)]
 have rS : ∀ k, gR (R.set (gN O s) ⟨r.a, r.m + 1, r.e⟩) k = if k = gN O s then ⟨r.a, r.m + 1, r.e⟩ else gR R k := fun k => gR_set R h1 _ k
 have hPs : ∀ t, t < n → gN P t = gN P s → t = s := fun t ht e => by rw [← (h.pi t ht).2, ← hps.2, e]
 have hPo : ∀ t, t < n → gN P t = r.m → t = o := fun t ht e => by rw [← (h.pi t ht).2, e, ho]
 have hLo : ∀ i, i < n → gN L i = o → i = r.m := fun i hi e => by rw [← (h.li i hi).2, e, ho2.2]
 have hLs : ∀ i, i < n → gN L i = s → i = gN P s := fun i hi e => by rw [← (h.li i hi).2, e]
 refine ⟨⟨by simp [h.ll], by simp [h.pl], h.ol, fun i hi => ?_, fun t ht => ?_, fun t ht => ?_, fun k hk => ?_, fun k hk i hi1 hi2 => ?_⟩, fun t ht => ?_⟩
 · rw [lS]
   by_cases e1 : i = gN P s
   · rw [if_pos e1, pS]
     by_cases e2 : o = s
     · rw [if_pos e2, e1]
       exact ⟨h5, by rw [← ho2.2, e2]⟩
     · rw [if_neg e2, if_pos rfl]; exact ⟨h5, e1.symm⟩
   · rw [if_neg e1]
     by_cases e2 : i = r.m
     · rw [if_pos e2, pS, if_pos rfl]; exact ⟨hs, e2.symm⟩
     · rw [if_neg e2, pS, if_neg (fun e => e1 (hLs i hi e)), if_neg (fun e => e2 (hLo i hi e))]
       exact h.li i hi
 · rw [pS]
   by_cases e1 : t = s
   · rw [if_pos e1, lS]
     by_cases e2 : r.m = gN P s
     · rw [if_pos e2]; exact ⟨h4, by rw [e1, ← hps.2, ← e2, ho]⟩
     · rw [if_neg e2, if_pos rfl]; exact ⟨h4, e1.symm⟩
   · rw [if_neg e1]
     by_cases e2 : t = o
     · rw [if_pos e2, lS, if_pos rfl]; exact ⟨h2, e2.symm⟩
     · rw [if_neg e2, lS, if_neg (fun e => e1 (hPs t ht e)), if_neg (fun e => e2 (hPo t ht e))]
       exact h.pi t ht
 · rw [List.length_set, pS, rS]
   have hot := h.os t ht
   refine ⟨hot.1, ?_⟩
   by_cases e1 : t = s
   · subst e1
     rw [if_pos rfl, if_pos rfl]
     exact ⟨h7, h6⟩
   · rw [if_neg e1]
     by_cases e2 : t = o
     · rw [if_pos e2, e2, hoo, if_pos rfl]; exact ⟨hos.2.1, hos.2.2⟩
     · rw [if_neg e2]
       by_cases e3 : gN O t = gN O s
       · rw [if_pos e3]
         have := hot.2
         rw [e3, hr] at this
         exact this
       · rw [if_neg e3]; exact hot.2
 · rw [List.length_set] at hk
   rw [rS]
   by_cases e1 : k = gN O s
   · rw [if_pos e1]; show r.a ≤ r.m + 1 ∧ r.m + 1 ≤ r.e ∧ r.a < r.e ∧ r.e ≤ n; omega
   · rw [if_neg e1]; exact h.rm k hk
 · rw [List.length_set] at hk
   have hk2 := h.rm k hk
   have hkk : (gR R k).a ≤ i ∧ i < (gR R k).e := by
    rw [rS] at hi1 hi2
    by_cases e1 : k = gN O s
    · rw [if_pos e1] at hi1 hi2; rw [e1, hr]; exact ⟨hi1, hi2⟩
    · rw [if_neg e1] at hi1 hi2; exact ⟨hi1, hi2⟩
   have hO := h.ro k hk i hkk.1 hkk.2
   rw [lS]
   by_cases e1 : i = gN P s
   · rw [if_pos e1, hoo]
     rw [e1, hps.2] at hO
     exact hO
   · rw [if_neg e1]
     by_cases e2 : i = r.m
     · rw [if_pos e2, ← hO, e2, ho, hoo]
     · rw [if_neg e2]; exact hO
 · rw [pS, rS]
   have hot := hM t ht
   by_cases e1 : t = s
   · subst e1
     rw [if_pos rfl, if_pos rfl]
     exact ⟨fun _ => Nat.lt_succ_self _, fun _ => .inr rfl⟩
   · rw [if_neg e1]
     have hP : ¬ gN P t = gN P s := fun e => e1 (hPs t ht e)
     by_cases e2 : t = o
     · subst e2
       rw [if_pos rfl, hoo, if_pos rfl]
       rw [hoo, ho2.2, hr] at hot
       have hne : ¬ gN P s = r.m := fun e => by rw [ho2.2] at hP; exact hP e.symm
       refine ⟨fun hh => ?_, fun hh => ?_⟩
       · rcases hh with hh | hh
         · exact absurd (hot.1 hh) (by omega)
         · exact absurd hh e1
       · have hh' : gN P s < r.m + 1 := hh
         omega
     · rw [if_neg e2]
       have hPm : ¬ gN P t = r.m := fun e => e2 (hPo t ht e)
       by_cases e3 : gN O t = gN O s
       · rw [if_pos e3]
         rw [e3, hr] at hot
         refine ⟨fun hh => ?_, fun hh => .inl (hot.2 ?_)⟩
         · rcases hh with hh | hh
           · have := hot.1 hh; show _ < r.m + 1; omega
           · exact absurd hh e1
         · have hh' : gN P t < r.m + 1 := hh
           omega
       · rw [if_neg e3]
         exact ⟨fun hh => hot.1 (hh.resolve_right e1), fun hh => .inl (hot.2 hh)⟩
end
structure CtS (n : Nat) (L P O : List Nat) (R : List Rm) (Dn : Nat → Prop) (O' : List Nat) (R' : List Rm) : Prop where
 pt : PtS n L P O' R'
 ml : R.length ≤ R'.length
 un : ∀ k, k < R.length → ¬ Dn k → gR R' k = gR R k
 fr : ∀ k, k < R'.length → (Dn k ∨ R.length ≤ k) → (gR R' k).m = (gR R' k).a
 kp : ∀ s, s < n → gN O' s = gN O s ∨ R.length ≤ gN O' s
 ke : ∀ s, s < n → ¬ Dn (gN O s) → gN O' s = gN O s
 iff : ∀ s, s < n → ∀ t, t < n → (gN O' s = gN O' t ↔ gN O s = gN O t ∧ (Dn (gN O s) → (gN P s < (gR R (gN O s)).m ↔ gN P t < (gR R (gN O t)).m)))
theorem gN_ext {A B : List Nat} (hl : A.length = B.length) (h : ∀ i, i < A.length → gN A i = gN B i) : A = B := by
 refine List.ext_getElem hl (fun i h1 h2 => ?_)
 have := h i h1
 rw [gN_lt h1, gN_lt h2] at this
 exact this
section
variable {n : Nat} {L P O O' : List Nat} {R R' : List Rm} {Dn : Nat → Prop}
theorem CtS.start (h : PtS n L P O R) : CtS n L P O R (fun _ => False) O R :=
 ⟨h, Nat.le_refl _, fun _ _ _ => rfl, fun k hk hh => hh.elim (fun h => h.elim) (fun h => by omega), fun _ _ => .inl rfl, fun _ _ _ => rfl, fun s _ t _ => ⟨fun e => ⟨e, fun h => h.elim⟩, fun e => e.1⟩⟩
theorem CtS.at (h : CtS n L P O R Dn O' R') {k : Nat} (hk : k < R.length) (hd : ¬ Dn k) : k < R'.length ∧ gR R' k = gR R k ∧ ∀ s, s < n → (gN O' s = k ↔ gN O s = k) := by
 refine ⟨Nat.lt_of_lt_of_le hk h.ml, h.un k hk hd, fun s hs => ⟨fun e => ?_, fun e => ?_⟩⟩
 · rcases h.kp s hs with h1 | h1
   · rw [← h1, e]
   · omega
 · rw [h.ke s hs (by rw [e]; exact hd), e]
theorem CtS.full (h : CtS n L P O R Dn O' R') {k : Nat} (hk : k < R.length) (hd : ¬ Dn k) (hm : (gR R k).m = (gR R k).e) : CtS n L P O R (fun j => Dn j ∨ j = k) O' (R'.set k ⟨(gR R k).a, (gR R k).a, (gR R k).e⟩) := by
 obtain ⟨h1, h2, h3⟩ := h.at hk hd
 have rS : ∀ j, gR (R'.set k ⟨(gR R k).a, (gR R k).a, (gR R k).e⟩) j = if j = k then ⟨(gR R k).a, (gR R k).a, (gR R k).e⟩ else gR R' j := fun j => gR_set R' h1 _ j
 have rA : ∀ j, (gR (R'.set k ⟨(gR R k).a, (gR R k).a, (gR R k).e⟩) j).a = (gR R' j).a := fun j => by
  rw [rS]; by_cases e : j = k
  · rw [if_pos e, e, h2]
  · rw [if_neg e]
 have rE : ∀ j, (gR (R'.set k ⟨(gR R k).a, (gR R k).a, (gR R k).e⟩) j).e = (gR R' j).e := fun j => by
  rw [rS]; by_cases e : j = k
  · rw [if_pos e, e, h2]
  · rw [if_neg e]
 have p := h.pt
 refine ⟨⟨p.ll, p.pl, p.ol, p.li, p.pi, fun s hs => by rw [List.length_set, rA, rE]; exact p.os s hs, fun j hj => ?_, fun j hj i hi1 hi2 => ?_⟩, by rw [List.length_set]; exact h.ml, fun j hj hnd => ?_, fun j hj hh => ?_, h.kp, fun s hs hnd => h.ke s hs (fun e => hnd (.inl e)), fun s hs t ht => ?_⟩
 · rw [List.length_set] at hj
   have := p.rm j hj
   rw [rA, rE, rS]
   by_cases e : j = k
   · rw [if_pos e]
     show (gR R' j).a ≤ (gR R k).a ∧ (gR R k).a ≤ (gR R' j).e ∧ _
     rw [e, h2] at this ⊢
     omega
   · rw [if_neg e]; exact this
 · rw [List.length_set] at hj
   rw [rA] at hi1
   rw [rE] at hi2
   exact p.ro j hj i hi1 hi2
 · rw [rS, if_neg (fun e => hnd (.inr e))]
   exact h.un j hj (fun e => hnd (.inl e))
 · rw [List.length_set] at hj
   rw [rS]
   by_cases e : j = k
   · rw [if_pos e]
   · rw [if_neg e]
     exact h.fr j hj (hh.elim (fun h => .inl (h.resolve_right e)) .inr)
 · rw [h.iff s hs t ht]
   refine ⟨fun ⟨e1, e2⟩ => ⟨e1, fun hh => ?_⟩, fun ⟨e1, e2⟩ => ⟨e1, fun hh => e2 (.inl hh)⟩⟩
   rcases hh with hh | hh
   · exact e2 hh
   · have hsk := p.os s hs
     have htk := p.os t ht
     rw [(h3 s hs).2 hh, h2] at hsk
     rw [(h3 t ht).2 (e1 ▸ hh), h2] at htk
     rw [← e1, hh, hm]
     exact ⟨fun _ => htk.2.2, fun _ => hsk.2.2⟩
theorem CtS.two (h : CtS n L P O R Dn O' R') {k x y u v : Nat} (hk : k < R.length) (hd : ¬ Dn k) (h1 : (gR R k).a < (gR R k).m) (h2 : (gR R k).m < (gR R k).e)
 (hc : (x = (gR R k).a ∧ y = (gR R k).m ∧ u = (gR R k).m ∧ v = (gR R k).e) ∨ (x = (gR R k).m ∧ y = (gR R k).e ∧ u = (gR R k).a ∧ v = (gR R k).m))
 {O2 : List Nat} (hl : O2.length = n) (hO : ∀ s, s < n → gN O2 s = if x ≤ gN P s ∧ gN P s < y then R'.length else gN O' s) : CtS n L P O R (fun j => Dn j ∨ j = k) O2 (R'.set k ⟨u, u, v⟩ ++ [⟨x, x, y⟩]) := by
 obtain ⟨g1, g2, g3⟩ := h.at hk hd
 have p := h.pt
 have hrk := p.rm k g1
 rw [g2] at hrk
 have hin : ∀ s, s < n → (gN O' s = k ↔ (gR R k).a ≤ gN P s ∧ gN P s < (gR R k).e) := fun s hs => by
  refine ⟨fun e => ?_, fun e => ?_⟩
  · have := p.os s hs
    rw [e, g2] at this
    exact this.2
  · have := p.ro k g1 (gN P s) (by rw [g2]; exact e.1) (by rw [g2]; exact e.2)
    rw [(p.pi s hs).2] at this
    exact this
 have hls : (R'.set k ⟨u, u, v⟩).length = R'.length := List.length_set
 have rS : ∀ j, j < R'.length → gR (R'.set k ⟨u, u, v⟩ ++ [⟨x, x, y⟩]) j = if j = k then ⟨u, u, v⟩ else gR R' j := fun j hj => by rw [gR_left (by rw [hls]; exact hj), gR_set R' g1]
 have rQ : gR (R'.set k ⟨u, u, v⟩ ++ [⟨x, x, y⟩]) R'.length = ⟨x, x, y⟩ := by
  have := gR_last (R'.set k ⟨u, u, v⟩) ⟨x, x, y⟩
  rw [hls] at this
  exact this
 have hlen : (R'.set k ⟨u, u, v⟩ ++ [(⟨x, x, y⟩ : Rm)]).length = R'.length + 1 := by rw [List.length_append, hls]; rfl
 have hO' : ∀ s, s < n → gN O' s < R'.length := fun s hs => (p.os s hs).1
 refine ⟨⟨p.ll, p.pl, hl, p.li, p.pi, fun s hs => ?_, fun j hj => ?_, fun j hj i hi1 hi2 => ?_⟩, by rw [hlen]; have := h.ml; omega, fun j hj hnd => ?_, fun j hj hh => ?_, fun s hs => ?_, fun s hs hnd => ?_, fun s hs t ht => ?_⟩
 · rw [hO s hs, hlen]
   have a1 := hO' s hs
   by_cases e : x ≤ gN P s ∧ gN P s < y
   · rw [if_pos e, rQ]; exact ⟨Nat.lt_succ_self _, e.1, e.2⟩
   · rw [if_neg e, rS _ a1]
     refine ⟨by omega, ?_⟩
     by_cases e2 : gN O' s = k
     · rw [if_pos e2]
       have := (hin s hs).1 e2
       show u ≤ gN P s ∧ gN P s < v
       omega
     · rw [if_neg e2]; exact (p.os s hs).2
 · rw [hlen] at hj
   by_cases e : j < R'.length
   · rw [rS j e]
     by_cases e2 : j = k
     · rw [if_pos e2]; show u ≤ u ∧ u ≤ v ∧ u < v ∧ v ≤ n; omega
     · rw [if_neg e2]; exact p.rm j e
   · obtain rfl : j = R'.length := by omega
     rw [rQ]; show x ≤ x ∧ x ≤ y ∧ x < y ∧ y ≤ n; omega
 · rw [hlen] at hj
   by_cases e : j < R'.length
   · rw [rS j e] at hi1 hi2
     have hij : (gR R' j).a ≤ i ∧ i < (gR R' j).e := by
      by_cases e2 : j = k
      · rw [if_pos e2] at hi1 hi2
        have a1 : u ≤ i := hi1
        have a2 : i < v := hi2
        rw [e2, g2]; omega
      · rw [if_neg e2] at hi1 hi2; exact ⟨hi1, hi2⟩
     have hin2 : i < n := by have := p.rm j e; omega
     have hq := p.li i hin2
     have hv := p.ro j e i hij.1 hij.2
     rw [hO _ hq.1, hq.2, if_neg ?_, hv]
     rintro ⟨b1, b2⟩
     have hjk : j = k := by
      rw [← hv]
      have := (hin _ hq.1).2
      rw [hq.2] at this
      exact this (by omega)
     rw [if_pos hjk] at hi1 hi2
     have a1 : u ≤ i := hi1
     have a2 : i < v := hi2
     omega
   · obtain rfl : j = R'.length := by omega
     rw [rQ] at hi1 hi2
     have a1 : x ≤ i := hi1
     have a2 : i < y := hi2
     have hq := p.li i (by omega)
     rw [hO _ hq.1, hq.2, if_pos ⟨a1, a2⟩]
 · rw [rS j (Nat.lt_of_lt_of_le hj h.ml), if_neg (fun e => hnd (.inr e))]
   exact h.un j hj (fun e => hnd (.inl e))
 · rw [hlen] at hj
   by_cases e : j < R'.length
   · rw [rS j e]
     by_cases e2 : j = k
     · rw [if_pos e2]
     · rw [if_neg e2]; exact h.fr j e (hh.elim (fun h => .inl (h.resolve_right e2)) .inr)
   · obtain rfl : j = R'.length := by omega
     rw [rQ]
 · rw [hO s hs]
   by_cases e : x ≤ gN P s ∧ gN P s < y
   · rw [if_pos e]; exact .inr h.ml
   · rw [if_neg e]; exact h.kp s hs
 · have hnk : ¬ gN O' s = k := fun e => hnd (.inr ((g3 s hs).1 e))
   rw [hO s hs, if_neg (fun e => hnk ((hin s hs).2 (by omega)))]
   exact h.ke s hs (fun e => hnd (.inl e))
 · have key : ∀ s, s < n → (x ≤ gN P s ∧ gN P s < y → gN O' s = k) := fun s hs e => (hin s hs).2 (by omega)
   have a1 := hO' s hs
   have a2 := hO' t ht
   have i1 := hin s hs
   have i2 := hin t ht
   have j1 := g3 s hs
   have j2 := g3 t ht
   have hi := h.iff s hs t ht
   rw [hO s hs, hO t ht]
   by_cases e1 : gN O' s = k
   · have o1 := j1.1 e1
     have r1 := i1.1 e1
     by_cases e2 : gN O' t = k
     · have o2 := j2.1 e2
       have r2 := i2.1 e2
       rw [o1, o2]
       by_cases b1 : x ≤ gN P s ∧ gN P s < y
       · rw [if_pos b1]
         by_cases b2 : x ≤ gN P t ∧ gN P t < y
         · rw [if_pos b2]
           exact ⟨fun _ => ⟨rfl, fun _ => by omega⟩, fun _ => rfl⟩
         · rw [if_neg b2]
           refine ⟨fun e => by omega, fun e => ?_⟩
           have := e.2 (.inr rfl)
           omega
       · rw [if_neg b1]
         by_cases b2 : x ≤ gN P t ∧ gN P t < y
         · rw [if_pos b2]
           refine ⟨fun e => by omega, fun e => ?_⟩
           have := e.2 (.inr rfl)
           omega
         · rw [if_neg b2]
           exact ⟨fun _ => ⟨rfl, fun _ => by omega⟩, fun _ => by rw [e1, e2]⟩
     · have o2 : ¬ gN O t = k := fun e => e2 (j2.2 e)
       have b2 : ¬ (x ≤ gN P t ∧ gN P t < y) := fun e => e2 (key t ht e)
       rw [if_neg b2]
       refine ⟨fun e => ?_, fun e => absurd (o1 ▸ e.1).symm o2⟩
       by_cases b1 : x ≤ gN P s ∧ gN P s < y
       · rw [if_pos b1] at e; omega
       · rw [if_neg b1, e1] at e; exact absurd e.symm e2
   · have o1 : ¬ gN O s = k := fun e => e1 (j1.2 e)
     have b1 : ¬ (x ≤ gN P s ∧ gN P s < y) := fun e => e1 (key s hs e)
     rw [if_neg b1]
     by_cases b2 : x ≤ gN P t ∧ gN P t < y
     · have e2 := key t ht b2
       rw [if_pos b2]
       refine ⟨fun e => by omega, fun e => absurd (e.1.trans (j2.1 e2)) o1⟩
     · rw [if_neg b2, hi]
       exact ⟨fun ⟨q1, q2⟩ => ⟨q1, fun hh => q2 (hh.resolve_right o1)⟩, fun ⟨q1, q2⟩ => ⟨q1, fun hh => q2 (.inl hh)⟩⟩
end
def Plain (R : List Rm) : Prop := ∀ k, k < R.length → (gR R k).m = (gR R k).a
theorem CtS.fin {n : Nat} {L P O O' : List Nat} {R R' : List Rm} {Dn M : Nat → Prop} (h : CtS n L P O R Dn O' R') (h0 : PtS n L P O R) (hM : MkS n P O R M) (hD : ∀ k, k < R.length → (Dn k ↔ (gR R k).a < (gR R k).m)) :
 Plain R' ∧ (∀ s, s < n → gN O' s = gN O s ∨ R.length ≤ gN O' s) ∧ ∀ s, s < n → ∀ t, t < n → (gN O' s = gN O' t ↔ gN O s = gN O t ∧ (M s ↔ M t)) := by
 refine ⟨fun k hk => ?_, h.kp, fun s hs t ht => ?_⟩
 · by_cases hl : k < R.length
   · by_cases hd : Dn k
     · exact h.fr k hk (.inl hd)
     · have := h.un k hl hd
       have h2 := (hD k hl)
       have h3 := h0.rm k hl
       rw [this]
       have h4 : ¬ (gR R k).a < (gR R k).m := fun e => hd (h2.2 e)
       omega
   · exact h.fr k hk (.inr (by omega))
 · rw [h.iff s hs t ht, ← hM s hs, ← hM t ht]
   refine ⟨fun ⟨e1, e2⟩ => ⟨e1, ?_⟩, fun ⟨e1, e2⟩ => ⟨e1, fun _ => e2⟩⟩
   by_cases hd : Dn (gN O s)
   · exact e2 hd
   · have a1 := h0.os s hs
     have a2 := h0.os t ht
     have h4 : ¬ (gR R (gN O s)).a < (gR R (gN O s)).m := fun e => hd ((hD _ a1.1).2 e)
     rw [hM s hs, hM t ht, ← e1]
     rw [← e1] at a2
     exact ⟨fun e => by omega, fun e => by omega⟩
end Go.Proofs.YtdgoilkgplnhfaaGreat
