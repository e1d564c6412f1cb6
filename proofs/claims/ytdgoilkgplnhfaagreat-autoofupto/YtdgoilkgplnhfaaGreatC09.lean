/-
  The document's wide by its contract. Condition: as many bytes as there are.
-/
import Derived.Test.YtdgoilkgplnhfaaGreatC08
set_option maxRecDepth 100000
set_option maxHeartbeats 16000000
namespace Go.Proofs.YtdgoilkgplnhfaaGreat
open Go.RowKit Go.Lib
def wdL (L : List Nat) : Nat := L.foldl (fun a x => max a (x + 1)) 0
theorem wdL_snoc (L : List Nat) (x : Nat) : wdL (L ++ [x]) = max (wdL L) (x + 1) := by simp [wdL, List.foldl_append]
theorem wdL_is {L : List Nat} (h : 0 < L.length) : wdL L = mxL L + 1 := by
 have key : ∀ (L : List Nat) (a : Nat), L.foldl (fun a x => max a (x + 1)) (a + 1) = L.foldl max a + 1 := by
  intro L
  induction L with
  | nil => intro a; rfl
  | cons x L ih =>
    intro a
    rw [List.foldl_cons, List.foldl_cons, ← ih]
    congr 1
    omega
 cases L with
 | nil => simp at h
 | cons x L =>
   unfold wdL mxL
   rw [List.foldl_cons, List.foldl_cons, show max 0 (x + 1) = max 0 x + 1 by omega]
   exact key L _
theorem wideD_any (bs : By) (na oa : Option Addr) (nl nc ol oc : Nat) (w : World) (hb : bs.length = 256) :
 Calls Tryz.prog 68 #[auV bs na nl nc oa ol oc] w fun e w' => e = .returned (.int .i64 ((mxL (ntL bs) + 1 : Nat) : Int)) ∧ Below w.heap.size w w' := by
 have hnl : (ntL bs).length = 256 := by unfold ntL; rw [List.length_map]; exact hb
 have HE : Hid (wdL ((ntL bs).take 256) = mxL (ntL bs) + 1) := by
  unfold Hid
  rw [List.take_of_length_le (by omega), wdL_is (by omega)]
 rw [← HE.out]
 obtain ⟨w2, hw2⟩ : ∃ w2, w2 = w.alloc (.cells #[.string ⟨bs.toArray⟩, .slice na nl nc, .slice oa ol oc] 24) := ⟨_, rfl⟩
 have X2 : Below w.heap.size w w2 := by rw [hw2]; exact al (Below.refl _ _) _
 have B2 : w2.heap[w.heap.size]? = some (.cells #[.string ⟨bs.toArray⟩, .slice na nl nc, .slice oa ol oc] 24 (0, 0)) := by rw [hw2]; exact heap_alloc_new w _
 have HC : Hid (∀ V, Below w2.heap.size w2 V → V.cell? ⟨w.heap.size, 0, none⟩ = some (.string ⟨bs.toArray⟩)) := fun V x => by
  have Bv := (x.block _ (lt_of_block B2)).trans B2
  rw [cell_of_row _ _ _ _ _ _ Bv]; rfl
 have HX2 := hide X2
 clear X2 B2
 unfold auV
 go_enter Tryz.func68, Tryz.ntmps68
 go_upto_region 1 with fail
 rw [← hw2]
 clear hw2
 go_wp2
 go_loopg [3, 4] 257 (fun g x y wr => ∃ k : Nat, y = .int .i64 (k : Nat) ∧ k ≤ 256 ∧ x = .int .i64 ((wdL ((ntL bs).take k) : Nat) : Int) ∧ Hid (Below w2.heap.size w2 wr) ∧ 256 - k < g)
 case atStart => exact ⟨0, rfl, by omega, rfl, Below.refl _ _, by omega⟩
 case round =>
  obtain ⟨k, rfl, hk1, rfl, X, hg⟩ := hrel
  have HG := hide hg
  clear hg
  by_cases hk : k < 256
  · have hkb : k < bs.length := by omega
    have hlb : (k : Int) < (bs.length : Int) := by omega
    have hk' : (k : Int) < 256 := by omega
    obtain ⟨y, hy⟩ : ∃ y, bs[k] = y := ⟨_, rfl⟩
    have hgy : ∀ hk, (⟨bs.toArray⟩ : ByteArray)[k]'hk = y := fun _ => hy
    have hyl : y.toNat < 256 := y.toNat_lt
    obtain ⟨z, hz⟩ : ∃ z, z = y.toNat := ⟨_, rfl⟩
    rw [← hz] at hyl
    have f2 : IntKind.i64.wrap ((y.toNat : Nat) : Int) = (z : Int) := by rw [← hz]; exact w64_n _ (by omega)
    have f3 : IntKind.i64.wrap ((z : Int) + 1) = (z : Int) + 1 := by rw [show (z : Int) + 1 = ((z + 1 : Nat) : Int) by simp]; exact w64_n _ (by omega)
    have HM : Hid (wdL ((ntL bs).take (k + 1)) = max (wdL ((ntL bs).take k)) (z + 1)) := by
     unfold Hid
     rw [List.take_succ_eq_append_getElem (by omega), wdL_snoc]
     unfold ntL
     rw [List.getElem_map, hy, hz]
    have c0 := HC.out wr X.out
    clear hy hz
    generalize wdL ((ntL bs).take k) = m at *
    by_cases hmz : m < z + 1
    · have h5 : ((m : Int) < (z : Int) + 1) := by omega
      go_wp2
      go_roundg (256 - (k + 1) + 1)
      case measure => have := HG.out; omega
      case rel => exact ⟨k + 1, by first | rfl | go_num | (congr 1; omega), by omega, by rw [HM.out, show max m (z + 1) = z + 1 by omega]; first | rfl | simp, X, by omega⟩
    · have h5 : ¬ ((m : Int) < (z : Int) + 1) := by omega
      go_wp2
      go_roundg (256 - (k + 1) + 1)
      case measure => have := HG.out; omega
      case rel => exact ⟨k + 1, by first | rfl | go_num | (congr 1; omega), by omega, by rw [HM.out, show max m (z + 1) = m by omega], X, by omega⟩
  · obtain rfl : k = 256 := by omega
    have XW := hide (bt HX2.out X.out (Nat.le_refl _))
    go_wp2
    go_ret
    exact ⟨rfl, XW.out⟩
end Go.Proofs.YtdgoilkgplnhfaaGreat
