/-
  The document's wide by its contract. Condition: as many bytes as there are.
-/
import Derived.Test.YtdgoilkgplnhfaaGreatB13
import Derived.BigQuiet
import Derived.Test.YtdgoilkgplnhfaaGreatB08
import Derived.Test.YtdgoilkgplnhfaaGreatB10
import Derived.Laws.MakeOwn
namespace Go.Proofs.YtdgoilkgplnhfaaGreat
open Go.RowKit Go.Lib

def wdL (L : List Nat) : Nat := L.foldl (fun a x => max a (x + 1)) 0
theorem wdL_snoc (L : List Nat) (x : Nat) : wdL (L ++ [x]) = max (wdL L) (x + 1) := by simp [wdL, List.foldl_append]
theorem wdL_is {L : List Nat} (h : 0 < L.length) : wdL L = mxL L + 1 := by
  have key : ∀ (L : List Nat) (a : Nat), L.foldl (fun a x => max a (x + 1)) (a + 1) = L.foldl max a + 1 := by
    intro L
    induction L with
    | nil => intro a; rfl
    | cons x L ih =>
      intro a
      rw [List.foldl_cons, List.foldl_cons, ← ih]
      congr 1
      omega
  cases L with
  | nil => simp at h
  | cons x L =>
    unfold wdL mxL
    rw [List.foldl_cons, List.foldl_cons, show max 0 (x + 1) = max 0 x + 1 by omega]
    exact key L _
theorem wdL_le (L : List Nat) (h : ∀ x ∈ L, x < 256) : wdL L ≤ 256 := by
  have key : ∀ (L : List Nat) (a : Nat), a ≤ 256 → (∀ x ∈ L, x < 256) → L.foldl (fun a x => max a (x + 1)) a ≤ 256 := by
    intro L
    induction L with
    | nil => intro a ha _; exact ha
    | cons x L ih =>
      intro a ha hx
      rw [List.foldl_cons]
      have := hx x List.mem_cons_self
      exact ih _ (by omega) (fun y hy => hx y (List.mem_cons_of_mem _ hy))
  exact key L 0 (by omega) h
theorem ntL_lt (bs : By) : ∀ x ∈ ntL bs, x < 256 := fun x hx => by
  obtain ⟨y, _, rfl⟩ := List.mem_map.1 hx
  exact y.toNat_lt
set_option maxRecDepth 100000 in
set_option maxHeartbeats 2000000 in
theorem wideD_any (bs : By) (na oa : Option Addr) (nl nc ol oc : Nat) (w : World) (hb : bs.length = 256) :
    Calls Tryz.prog 68 #[auV bs na nl nc oa ol oc] w fun e w' => e = .returned (.int .i64 ((mxL (ntL bs) + 1 : Nat) : Int)) ∧ Below w.heap.size w w' := by
  have hnl : (ntL bs).length = 256 := by unfold ntL; rw [List.length_map]; exact hb
  have HE : Hid (wdL ((ntL bs).take 256) = mxL (ntL bs) + 1) := by
    unfold Hid
    rw [List.take_of_length_le (by omega), wdL_is (by omega)]
  rw [← HE.out]
  obtain ⟨w2, hw2⟩ : ∃ w2, w2 = w.alloc (.cells #[.string ⟨bs.toArray⟩, .slice na nl nc, .slice oa ol oc] 24) := ⟨_, rfl⟩
  have X2 : Below w.heap.size w w2 := by rw [hw2]; exact al (Below.refl _ _) _
  have B2 : w2.heap[w.heap.size]? = some (.cells #[.string ⟨bs.toArray⟩, .slice na nl nc, .slice oa ol oc] 24 (0, 0)) := by rw [hw2]; exact heap_alloc_new w _
  have HC : Hid (∀ V, Below w2.heap.size w2 V → V.cell? ⟨w.heap.size, 0, none⟩ = some (.string ⟨bs.toArray⟩)) := fun V x => by
    have Bv := (x.block _ (lt_of_block B2)).trans B2
    rw [cell_of_row _ _ _ _ _ _ Bv]; rfl
  have HX2 := hide X2
  clear X2 B2
  unfold auV
  go_enter Tryz.func68, Tryz.ntmps68
  go_upto_region 1 with fail
  rw [← hw2]
  clear hw2
  go_wp2
  go_loopg [3, 4] 257 (fun g x y wr => ∃ k : Nat, y = .int .i64 (k : Nat) ∧ k ≤ 256 ∧ x = .int .i64 ((wdL ((ntL bs).take k) : Nat) : Int) ∧ Hid (Below w2.heap.size w2 wr) ∧ 256 - k < g)
  case atStart => exact ⟨0, rfl, by omega, rfl, Below.refl _ _, by omega⟩
  case round =>
    obtain ⟨k, rfl, hk1, rfl, X, hg⟩ := hrel
    have HG := hide hg
    clear hg
    by_cases hk : k < 256
    · have hkb : k < bs.length := by omega
      have hlb : (k : Int) < (bs.length : Int) := by omega
      have hk' : (k : Int) < 256 := by omega
      obtain ⟨y, hy⟩ : ∃ y, bs[k] = y := ⟨_, rfl⟩
      have hgy : ∀ hk, (⟨bs.toArray⟩ : ByteArray)[k]'hk = y := fun _ => hy
      have hyl : y.toNat < 256 := y.toNat_lt
      obtain ⟨z, hz⟩ : ∃ z, z = y.toNat := ⟨_, rfl⟩
      rw [← hz] at hyl
      have f2 : IntKind.i64.wrap ((y.toNat : Nat) : Int) = (z : Int) := by rw [← hz]; exact w64_n _ (by omega)
      have f3 : IntKind.i64.wrap ((z : Int) + 1) = (z : Int) + 1 := by rw [show (z : Int) + 1 = ((z + 1 : Nat) : Int) by simp]; exact w64_n _ (by omega)
      have HM : Hid (wdL ((ntL bs).take (k + 1)) = max (wdL ((ntL bs).take k)) (z + 1)) := by
        unfold Hid
        rw [List.take_succ_eq_append_getElem (by omega), wdL_snoc]
        unfold ntL
        rw [List.getElem_map, hy, hz]
      have c0 := HC.out wr X.out
      clear hy hz
      generalize wdL ((ntL bs).take k) = m at *
      by_cases hmz : m < z + 1
      · have h5 : ((m : Int) < (z : Int) + 1) := by omega
        go_wp2
        go_roundg (256 - (k + 1) + 1)
        case measure => have := HG.out; omega
        case rel => exact ⟨k + 1, by first | rfl | go_num | (congr 1; omega), by omega, by first | (rw [HM.out, show max m (z + 1) = z + 1 by omega]; rfl) | (rw [HM.out, show max m (z + 1) = z + 1 by omega]; simp; done) | (rw [HM.out, show max m (z + 1) = z + 1 by omega]; congr 1; omega), X, by omega⟩
      · have h5 : ¬ ((m : Int) < (z : Int) + 1) := by omega
        go_wp2
        go_roundg (256 - (k + 1) + 1)
        case measure => have := HG.out; omega
        case rel => exact ⟨k + 1, by first | rfl | go_num | (congr 1; omega), by omega, by first | (rw [HM.out, show max m (z + 1) = m by omega]; done) | (rw [HM.out, show max m (z + 1) = m by omega]; congr 1; omega), X, by omega⟩
    · obtain rfl : k = 256 := by omega
      have XW := hide (bt HX2.out X.out (Nat.le_refl _))
      go_wp2
      go_ret
      exact ⟨rfl, XW.out⟩
end Go.Proofs.YtdgoilkgplnhfaaGreat
/-
  The document's columns by its contract. Condition: as many bytes as there are.
-/
namespace Go.Proofs.YtdgoilkgplnhfaaGreat
open Go.RowKit Go.Lib

set_option maxRecDepth 100000 in
set_option maxHeartbeats 4000000 in
theorem colsD_any (bs : By) (na oa : Option Addr) (nl nc ol oc : Nat) (w : World) (hb : bs.length = 256) :
    Calls Tryz.prog 36 #[auV bs na nl nc oa ol oc] w fun e w' => (∃ ao cap L B, e = .returned (.slice ao L.length cap) ∧ NAt w' ao L ∧ ClT (fun b => (bs.getD b 0).toNat) 256 B L) ∧ Below w.heap.size w w' := by
  obtain ⟨i3, hi3, hz30, hz31, hz32⟩ := info_parts Tryz.info3n
  obtain ⟨i4, hi4, hz40, hz41, hz42⟩ := info_parts Tryz.info4n
  obtain ⟨w2, hw2⟩ : ∃ w2, w2 = w.alloc (.cells #[.string ⟨bs.toArray⟩, .slice na nl nc, .slice oa ol oc] 24) := ⟨_, rfl⟩
  have X2 : Below w.heap.size w w2 := by rw [hw2]; exact al (Below.refl _ _) _
  have B2 : w2.heap[w.heap.size]? = some (.cells #[.string ⟨bs.toArray⟩, .slice na nl nc, .slice oa ol oc] 24 (0, 0)) := by rw [hw2]; exact heap_alloc_new w _
  have HC : Hid (∀ V, Below w2.heap.size w2 V → V.cell? ⟨w.heap.size, 0, none⟩ = some (.string ⟨bs.toArray⟩)) := fun V x => by
    have Bv := (x.block _ (lt_of_block B2)).trans B2
    rw [cell_of_row _ _ _ _ _ _ Bv]; rfl
  have HX2 := hide X2
  clear X2 B2
  unfold auV
  go_enter Tryz.func36, Tryz.ntmps36
  go_upto_region 1 with fail
  rw [← hw2]
  clear hw2
  go_upto_region 2 with (at_make; refine wpList_make_full _ rfl (.const (.int .i64 256)) (.const (.int .i64 256)) 86 rfl w2.heap.size 4 i4 (.bool false) 1 Tryz.underlying86 hi4 hz40 hz41 .i64 .i64 _ _ 256 rfl rfl rfl rfl (by rw [hz42]; decide) (by unfold maxLen; decide) (Nat.le_refl _) ?_; intro w3 m1 m2; have F3 := hide (((Fr.start w2).madeB m1 m2).bare 3); clear m1 m2)
  obtain ⟨gb, hgb⟩ : ∃ gb, gb = w2.heap.size := ⟨_, rfl⟩
  rw [← hgb] at F3 ⊢
  have HGB := hide hgb
  clear hgb
  go_wp2
  go_loopg [4, 5] 257 (fun g x y wr => ∃ (k : Nat) (L : List Nat) (B : List Bool), y = .int .i64 (k : Nat) ∧ k ≤ 256 ∧ Hid (Fr w2 [(.slice (some ⟨gb, 0, none⟩) 256 256, 4, bC B), (x, 3, nCells L)] wr) ∧ Hid (ClT (fun b => (bs.getD b 0).toNat) k B L) ∧ 256 - k < g)
  case atStart => exact ⟨0, [], List.replicate 256 false, rfl, by omega, F3, ClT.start, by omega⟩
  case round =>
    obtain ⟨k, L, B, rfl, hk1, F, S, hg⟩ := hrel
    have HG := hide hg
    clear hg F3
    by_cases hk : k < 256
    · have hkb : k < bs.length := by omega
      have hlb : (k : Int) < (bs.length : Int) := by omega
      have hk' : (k : Int) < 256 := by omega
      obtain ⟨y, hy⟩ : ∃ y, bs[k] = y := ⟨_, rfl⟩
      have hgy : ∀ hk, (⟨bs.toArray⟩ : ByteArray)[k]'hk = y := fun _ => hy
      have hyl : y.toNat < 256 := y.toNat_lt
      obtain ⟨z, hz⟩ : ∃ z, z = y.toNat := ⟨_, rfl⟩
      rw [← hz] at hyl
      have f2 : IntKind.i64.wrap ((y.toNat : Nat) : Int) = (z : Int) := by rw [← hz]; exact w64_n _ (by omega)
      have e : (bs.getD k 0).toNat = z := by rw [List.getD_eq_getElem?_getD, List.getElem?_eq_getElem hkb, hy, hz]; rfl
      have HOLD : Hid (gB B z = true → ClT (fun b => (bs.getD b 0).toNat) (k + 1) B L) := fun h => S.out.old (by simp only [e]; exact hyl) (by simp only [e]; exact h)
      have HNEW : Hid (ClT (fun b => (bs.getD b 0).toNat) (k + 1) (B.set z true) (L ++ [z])) := by have := S.out.new (by simp only [e]; exact hyl); unfold Hid; simpa only [e] using this
      have hbl := S.out.bl
      have hll := S.out.len
      have c0 := HC.out wr F.out.bel
      clear hy e hz
      obtain ⟨s0, s1⟩ := F.out.slotB (i := 0) (by simp) rfl (k := z) (by omega)
      have hzi : (z : Int) < 256 := by omega
      obtain ⟨fl, hfl⟩ : ∃ fl, fl = B.getD z false := ⟨_, rfl⟩
      rw [← hfl] at s0
      cases fl with
      | true =>
        have S2 := hide (HOLD.out hfl.symm)
        clear hfl
        go_wp2
        go_roundg (256 - (k + 1) + 1)
        case measure => have := HG.out; omega
        case rel => exact ⟨k + 1, L, B, by first | rfl | go_num | (congr 1; omega), by omega, F, S2, by omega⟩
      | false =>
        have F2 := hide (F.out.storeB (i := 0) (by simp) rfl z true)
        clear hfl
        go_upto_region 9 with fail
        obtain ⟨wq, hwq⟩ : ∃ wq, wq = wr.setCell ⟨gb, z, none⟩ (.bool true) := ⟨_, rfl⟩
        rw [← hwq] at F2 ⊢
        clear hwq s0 s1 c0
        obtain ⟨p1, p2, p3⟩ := F2.out.pre (i := 1) (by simp) rfl (z : Int)
        have P1 := hide p1
        have P2 := hide p2
        have P3 := hide p3
        have HPU : Hid (∀ v' w6, w6.ownsRow w2.heap.size 3 1 v' (L.length + 1) (nCells L ++ [.int .i64 (z : Int)]) → AppAt (wq.alloc (.cells #[.int .i64 (z : Int)] 3)) w6 u4 v' → Fr w2 [(.slice (some ⟨gb, 0, none⟩) 256 256, 4, bC (B.set z true)), (v', 3, nCells (L ++ [z]))] w6) := fun v' w6 g1 g2 => F2.out.push (i := 1) (by simp) rfl g1 g2
        clear p1 p2 p3
        go_upto_region 5 with (at_builtin; refine wpList_append_view rfl (.tmp 25) (.tmp 27) 22 rfl w2.heap.size 3 i3 (.int .i64 0) 1 8 Tryz.underlying22 hi3 hz30 hz31 hz32 rfl (by decide) _ L.length _ rfl P1.out ⟨wq.heap.size, 0, none⟩ 1 1 [.int .i64 (z : Int)] rfl rfl P2.out (by simp [Value.oneCell']) (by decide) (by unfold maxLen; omega) (by omega) P3.out ?_; intro v6 w6 g1 g2; have F6 := hide (HPU.out v6 w6 g1 g2); clear g1 g2)
        go_wp2
        go_roundg (256 - (k + 1) + 1)
        case measure => have := HG.out; omega
        case rel => exact ⟨k + 1, _, _, by first | rfl | go_num | (congr 1; omega), by omega, F6, HNEW, by omega⟩
    · obtain rfl : k = 256 := by omega
      have XW := hide (bt HX2.out F.out.bel (Nat.le_refl _))
      obtain ⟨ao, cap, rfl, hn⟩ := F.out.nat (i := 1) (by simp) rfl
      have HN := hide hn
      clear hn
      go_wp2
      go_ret
      exact ⟨⟨ao, cap, L, B, rfl, HN.out, S.out⟩, XW.out⟩
end Go.Proofs.YtdgoilkgplnhfaaGreat
