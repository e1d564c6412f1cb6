/-
  key and slices.Clone by their contracts. Condition: levels and refs that may be; at most 65536 numbers.
-/
import Derived.Test.YtaafeflbanoncaaP05
import Derived.Laws.IdiomStrings
import Derived.Laws.MakeOwn
import Derived.Maps.OwnSet
import Derived.Maps.Views
import Derived.Maps.Keyed
namespace Go.Proofs.Ytaafeflbanoncaa
open Go.RowKit Go.Lib

theorem Try.info3 : (Try.prog.info? 3).map (fun i => (i.zero, i.size, i.bytes)) = some (some (.int .i64 0), 1, 8) := by kernel_rfl
theorem Try.info5 : (Try.prog.info? 5).map (fun i => (i.zero, i.size, i.bytes)) = some (some (.int .u8 0), 1, 1) := by kernel_rfl
theorem appK {w w' : World} {v v' : Value} (h : AppAt w w' v v') : Kept (fun k => v.ownBlock = some k) w w' := by
  rcases h with ⟨g, a, b, c⟩ | ⟨a, b⟩
  · exact (kept_of_grown c).mono (fun k hk => a.trans hk)
  · exact Kept.of_below (below_of_grown a)
theorem app_below {w0 w w' : World} {N n size : Nat} {e : TypeId} {v v' : Value} {xs : List Value} (h : Below N w0 w) (ho : w.ownsRow N e size v n xs) (ha : AppAt w w' v v') (hN : N ≤ w0.heap.size) : Below N w0 w' :=
  h.trans ((appK ha).below (Nat.le_trans hN h.size) (fun k hk => (World.ownsRow.lt ho k hk).1))
/-- Numbers as cells. -/
def zC (L : List Int) : List Value := L.map (Value.int .i64)
theorem zC_length (L : List Int) : (zC L).length = L.length := by simp [zC]
theorem zC_get (L : List Int) {i : Nat} (h : i < L.length) : (zC L)[i]? = some (.int .i64 (L.getD i 0)) := by simp [zC, h, List.getD_eq_getElem?_getD]
theorem zC_one (L : List Int) : ∀ u ∈ zC L, u.oneCell' = true := fun u hu => by
  obtain ⟨n, _, rfl⟩ := List.mem_map.1 hu
  simp [Value.oneCell']
theorem zC_snoc (L : List Int) (x : Int) : zC (L ++ [x]) = zC L ++ [.int .i64 x] := by simp [zC]
theorem zC_take (L : List Int) (k : Nat) : zC (L.take k) = (zC L).take k := by simp [zC]
theorem ZAt.cells {w : World} {a : Addr} {L : List Int} (h : ZAt w (some a) L) : ∀ j u, (zC L)[j]? = some u → w.cell? (a.add j) = some u := fun j u hu => by
  have hj : j < L.length := by
    rcases Nat.lt_or_ge j L.length with h1 | h1
    · exact h1
    · rw [List.getElem?_eq_none (by rw [zC_length]; exact h1)] at hu; cases hu
  obtain ⟨b, off, e, _, c⟩ := h.get hj
  injection e with e
  subst e
  rw [zC_get L hj] at hu
  rw [addr_add, c]
  exact hu
/-- A block that reads as these numbers. -/
def ZBk (w : World) (b : Nat) (L : List Int) : Prop := ∃ cs, w.heap[b]? = some (.cells cs 3 (0, 0)) ∧ ∀ i, i < L.length → cs[i]? = some (.int .i64 (L.getD i 0))
theorem ZBk.lt {w : World} {b : Nat} {L : List Int} (h : ZBk w b L) : b < w.heap.size := by
  obtain ⟨cs, h1, _⟩ := h
  exact lt_of_block h1
theorem ZBk.congr {w w' : World} {b : Nat} {L : List Int} (h : ZBk w b L) (e : w'.heap[b]? = w.heap[b]?) : ZBk w' b L := by
  obtain ⟨cs, h1, h2⟩ := h
  exact ⟨cs, e.trans h1, h2⟩
theorem ZBk.kept {F : Nat → Prop} {w w' : World} {b : Nat} {L : List Int} (h : ZBk w b L) (hk : Kept F w w') (hF : ¬ F b) : ZBk w' b L := h.congr (hk.block b h.lt hF)
theorem ZBk.below {w w' : World} {b : Nat} {L : List Int} (h : ZBk w b L) (hb : Below w.heap.size w w') : ZBk w' b L := h.congr (hb.block b h.lt)
theorem ZBk.at {w : World} {b : Nat} {L : List Int} (h : ZBk w b L) : ZAt w (some ⟨b, 0, none⟩) L := by
  have hb := h.lt
  obtain ⟨cs, h1, h2⟩ := h
  exact .inr ⟨b, 0, rfl, hb, fun i hi => by rw [Nat.zero_add, cell_of_row w b i _ _ _ h1]; exact h2 i hi⟩
theorem ZBk.cell {w : World} {b : Nat} {L : List Int} (h : ZBk w b L) {i : Nat} (hi : i < L.length) : w.cell? ⟨b, i, none⟩ = some (.int .i64 (L.getD i 0)) := by
  obtain ⟨cs, h1, h2⟩ := h
  rw [cell_of_row w b i _ _ _ h1]
  exact h2 i hi
theorem ZBk.take {w : World} {b : Nat} {L : List Int} (h : ZBk w b L) (k : Nat) : ZBk w b (L.take k) := by
  obtain ⟨cs, h1, h2⟩ := h
  refine ⟨cs, h1, fun i hi => ?_⟩
  rw [List.length_take] at hi
  rw [h2 i (by omega)]
  simp only [List.getD_eq_getElem?_getD]
  rw [List.getElem?_take_of_lt (by omega)]
/-- A row of numbers of its own. -/
theorem own_blk {w : World} {base : Nat} {v : Value} {L : List Int} (h : w.ownsRow base 3 1 v L.length (zC L)) (h0 : 0 < L.length) : ∃ g cap, v = .slice (some ⟨g, 0, none⟩) L.length cap ∧ base ≤ g ∧ ZBk w g L := by
  rcases h.2 with ⟨_, h2⟩ | ⟨g, cap, cur, rfl, hb, hg, h1, h2, h3, h4⟩
  · omega
  · refine ⟨g, cap, rfl, hb, cur, hg, fun i hi => ?_⟩
    rw [← zC_get L hi, ← h4, List.getElem?_take_of_lt (by omega), Array.getElem?_toList]
set_option maxRecDepth 100000 in
set_option maxHeartbeats 1000000 in
theorem clone_any (a : Addr) (cap : Nat) (L : List Int) (w : World) (hl : L.length ≤ 65536) (h0 : 0 < L.length) (hat : ZAt w (some a) L) :
    Calls Try.prog 30 #[.slice (some a) L.length cap] w fun e w' => (∃ g c, e = .returned (.slice (some ⟨g, 0, none⟩) L.length c) ∧ w'.ownsRow w.heap.size 3 1 (.slice (some ⟨g, 0, none⟩) L.length c) L.length (zC L) ∧ ZBk w' g L ∧ w.heap.size ≤ g) ∧ Below w.heap.size w w' := by
  obtain ⟨i3, hi3, hz30, hz31, hz32⟩ := info_parts Try.info3
  have hnil := fun (a : Option Addr) (n c : Nat) (W : World) => run_eql_slice_nil (P := Try.prog) W 22 3 a n c 0 0 Try.underlying22
  have hb1 : Below w.heap.size w (w.alloc (.cells #[] 3)) := (Below.refl _ _).alloc (Nat.le_refl _) _
  have HN := hide (hat.below hb1).cells
  have HO : Hid ((w.alloc (.cells #[] 3)).ownsRow w.heap.size 3 1 (.slice (some ⟨w.heap.size, 0, none⟩) 0 0) 0 []) := ⟨rfl, .inr ⟨w.heap.size, 0, #[], rfl, Nat.le_refl _, by show (w.heap.push _)[_]? = _; simp, Nat.le_refl _, by decide, rfl, rfl⟩⟩
  have HB := hide hb1
  have HL : Hid ((zC L).length = L.length * 1) := by unfold Hid; rw [zC_length, Nat.mul_one]
  have H0 := hide h0
  clear hat hb1 h0
  go_enter Try.func30, Try.ntmps30
  go_wp2_with (at_builtin; refine wpList_append_view rfl (.tmp 5) (.tmp 6) 22 rfl w.heap.size 3 i3 (.int .i64 0) 1 8 Try.underlying22 hi3 hz30 hz31 hz32 rfl (by decide) _ 0 [] rfl HO.out a L.length cap (zC L) rfl HL.out HN.out (zC_one L) H0.out (by unfold maxLen; omega) (by omega) HB.out.size ?_; intro v8 w8 h1 h2; have H1 := hide h1; have H2 := hide h2; clear h1 h2)
  go_ret
  have o := H1.out
  rw [Nat.zero_add, List.nil_append] at o
  obtain ⟨g, c, rfl, hg, hz⟩ := own_blk o H0.out
  exact ⟨⟨g, c, rfl, o, hz, hg⟩, app_below HB.out HO.out H2.out (Nat.le_refl _)⟩
/-- Bytes as cells. -/
def uC (L : List UInt8) : List Value := L.map fun b => Value.int .u8 (b.toNat : Int)
theorem uC_length (L : List UInt8) : (uC L).length = L.length := by simp [uC]
theorem keyB_snoc (lv : Int) (A : List Int) (x : Int) : keyB lv (A ++ [x]) = keyB lv A ++ [UInt8.ofNat (x.toNat / 256), UInt8.ofNat (x.toNat % 256)] := by simp [keyB]
theorem uC_key_snoc (lv : Int) (A : List Int) (x : Int) (h0 : 0 ≤ x) (h1 : x < 65536) : uC (keyB lv (A ++ [x])) = uC (keyB lv A) ++ [.int .u8 (x / 256), .int .u8 (x % 256)] := by
  rw [keyB_snoc]
  unfold uC
  rw [List.map_append]
  obtain ⟨n, rfl⟩ : ∃ n : Nat, x = n := ⟨x.toNat, by omega⟩
  simp [UInt8.toNat_ofNat']
  omega
theorem take_snoc {A : List Int} {k : Nat} (h : k < A.length) : A.take (k + 1) = A.take k ++ [A.getD k 0] := by
  rw [List.take_add_one, List.getElem?_eq_getElem h, List.getD_eq_getElem?_getD, List.getElem?_eq_getElem h]
  rfl
theorem two_new (w : World) (x y : Value) (t : TypeId) (j : Nat) (u : Value) (hu : ([x, y] : List Value)[j]? = some u) : (w.alloc (.cells #[x, y] t)).cell? ((⟨w.heap.size, 0, none⟩ : Addr).add j) = some u := by
  match j, hu with
  | 0, hu => simp at hu; subst hu; simp [Addr.add]
  | 1, hu => simp at hu; subst hu; simp [Addr.add]
theorem one_new (w : World) (x : Value) (t : TypeId) (j : Nat) (u : Value) (hu : ([x] : List Value)[j]? = some u) : (w.alloc (.cells #[x] t)).cell? ((⟨w.heap.size, 0, none⟩ : Addr).add j) = some u := by
  match j, hu with
  | 0, hu => simp at hu; subst hu; simp [Addr.add]
set_option maxRecDepth 100000 in
set_option maxHeartbeats 1000000 in
theorem key_any (lv : Int) (ao : Option Addr) (cap : Nat) (A : List Int) (w : World) (h0 : 0 ≤ lv) (h1 : lv < 256) (hA : ∀ f ∈ A, 0 ≤ f ∧ f < 65536) (hl : A.length ≤ 256) (hz : ZAt w ao A) :
    Calls Try.prog 71 #[.int .i64 lv, .slice ao A.length cap] w fun e w' => e = .returned (.string ⟨(keyB lv A).toArray⟩) ∧ Below w.heap.size w w' := by
  obtain ⟨i5, hi5, hz50, hz51, hz52⟩ := info_parts Try.info5
  have HZ := hide hz
  have HA := hide hA
  clear hz hA
  have e3 : IntKind.u8.wrap lv = lv := by simp [IntKind.wrap, IntKind.bits, IntKind.signed]; omega
  have HK0 : Hid (uC (keyB lv []) = [] ++ [Value.int .u8 lv]) := by
    unfold Hid keyB uC
    obtain ⟨n, rfl⟩ : ∃ n : Nat, lv = n := ⟨lv.toNat, by omega⟩
    simp [UInt8.toNat_ofNat']
    omega
  have HL0 : Hid ((keyB lv []).length = 1) := by unfold Hid; rw [keyB_length]; rfl
  go_enter Try.func71, Try.ntmps71
  go_upto_region 3 with (first
    | (at_make; refine wpList_make_own _ rfl (.const (.int .i64 0)) (.tmp 11) 123 rfl w.heap.size 5 i5 (.int .u8 0) 1 Try.underlying123 hi5 hz50 hz51 .i64 .i64 _ (1 + 2 * A.length) rfl rfl (by push_cast; rfl) (by rw [hz52]; omega) (by unfold maxLen; omega) (Nat.le_refl _) ?_; intro w1 m1 m2; have M1 := hide m1; have M2 := hide (below_of_grown m2); clear m1 m2)
    | (at_builtin; refine wpList_append_view rfl (.tmp 13) (.tmp 16) 123 rfl w.heap.size 5 i5 (.int .u8 0) 1 1 Try.underlying123 hi5 hz50 hz51 hz52 rfl (by decide) _ 0 [] rfl (own_below M1.out (al (Below.refl _ _) _)) ⟨w1.heap.size, 0, none⟩ 1 1 [.int .u8 lv] rfl rfl (one_new w1 _ _) (by simp [Value.oneCell']) (by decide) (by unfold maxLen; omega) (by omega) (Nat.le_trans M2.out.size (al (Below.refl _ w1) _).size) ?_; intro v2 w2 h1 h2; have H1 := hide h1; have H2 := hide (app_below (al M2.out _) (own_below M1.out (al (Below.refl _ _) _)) h2 (Nat.le_refl _)); clear h1 h2))
  have S2 : Hid (w2.ownsRow w.heap.size 5 1 v2 (keyB lv (A.take 0)).length (uC (keyB lv (A.take 0)))) := by
    unfold Hid
    rw [List.take_zero, HK0.out, HL0.out]
    exact H1.out
  obtain ⟨ao2, cap2, hv2, _⟩ := own_shape H1.out
  rw [Nat.zero_add] at hv2
  subst hv2
  clear H1 M1 M2 HK0 HL0
  go_wp2
  go_loopw [5, 20] (fun v x wr => ∃ k : Nat, k ≤ A.length ∧ x = .int .i64 k ∧ Hid (wr.ownsRow w.heap.size 5 1 v (keyB lv (A.take k)).length (uC (keyB lv (A.take k)))) ∧ Hid (Below w.heap.size w wr)) (fun _ x _ => A.length - (RowKit.intOf x).toNat)
  case atStart => exact ⟨0, Nat.zero_le _, rfl, S2, H2⟩
  case round =>
    obtain ⟨k, hk, rfl, S3, HQ⟩ := hrel
    clear S2 H2
    obtain ⟨ao3, cap3, hv3, hp3⟩ := own_shape S3.out
    have hkl : (keyB lv (A.take k)).length = 1 + 2 * k := by rw [keyB_length, List.length_take]; omega
    rw [hkl] at S3 hv3 hp3
    clear hkl
    subst hv3
    by_cases hlt : k < A.length
    · have hlt' : (k : Int) < A.length := by omega
      obtain ⟨b1, o1, rfl, hb1, g1⟩ := HZ.out.get hlt
      have q1 := (HQ.out.cell (p := ⟨b1, o1 + k, none⟩) hb1).trans g1
      have hr := HA.out _ (getD_mem hlt)
      have HS := hide (take_snoc hlt)
      clear g1
      generalize A.getD k 0 = x at *
      have HU := hide (uC_key_snoc lv (A.take k) x hr.1 hr.2)
      have e4 : IntKind.u8.wrap (x / 256) = x / 256 := by simp [IntKind.wrap, IntKind.bits, IntKind.signed]; omega
      have e5 : IntKind.u8.wrap x = x % 256 := by simp [IntKind.wrap, IntKind.bits, IntKind.signed]
      have HL : Hid ((uC (keyB lv (A.take k))).length = (1 + 2 * k) * 1) := S3.out.1
      have HSZ := hide HQ.out.size
      go_wp2_with (at_builtin; refine wpList_append_view rfl (.tmp 24) (.tmp 30) 123 rfl w.heap.size 5 i5 (.int .u8 0) 1 1 Try.underlying123 hi5 hz50 hz51 hz52 rfl (by decide) _ (1 + 2 * k) (uC (keyB lv (A.take k))) rfl (own_below S3.out (al (Below.refl _ _) _)) ⟨wr.heap.size, 0, none⟩ 2 2 [.int .u8 (x / 256), .int .u8 (x % 256)] rfl rfl (two_new wr _ _ _) (by simp [Value.oneCell']) (by decide) (by unfold maxLen; omega) (by omega) (Nat.le_trans HSZ.out (al (Below.refl _ wr) _).size) ?_; intro v4 w4 h1 h2; obtain ⟨ao4, cap4, hv4, _⟩ := own_shape h1; subst hv4; have H1 := hide h1; have H2 := hide (app_below (bt HQ.out (al (Below.refl _ _) _) (Nat.le_refl _)) (own_below S3.out (al (Below.refl _ _) _)) h2 (Nat.le_refl _)); clear h1 h2)
      go_roundw
      case rel =>
        refine ⟨k + 1, by omega, by go_num, ?_, H2⟩
        unfold Hid
        rw [HS.out, HU.out, keyB_length, List.length_append, List.length_take, Nat.min_eq_left (by omega), show 1 + 2 * (k + [x].length) = 1 + 2 * k + 2 by simp; omega]
        exact H1.out
      case measure => simp [RowKit.intOf]; omega
    · have hlt' : ¬ (k : Int) < A.length := by omega
      obtain rfl : k = A.length := by omega
      rw [List.take_length] at S3
      obtain ⟨g, rfl⟩ := hp3 (by omega)
      have hcv := run_convert_bytes_back (P := Try.prog) wr 123 9 5 ⟨g, 0, none⟩ cap3 (keyB lv A) Try.underlying123 Try.underlying5 Try.underlying9 (fun j hj => by
        rw [addr_add, Nat.zero_add, World.ownsRow.cellAt S3.out j (by rw [keyB_length] at hj; omega)]
        simp [uC, hj])
      rw [keyB_length] at hcv
      go_wp2
      go_ret
      exact ⟨rfl, HQ.out⟩
end Go.Proofs.Ytaafeflbanoncaa
/-
  The program's arena in memory; isNode, Has, Level, Len, Most by their contracts. No condition.
-/
namespace Go.Proofs.Ytaafeflbanoncaa
open Go.RowKit Go.Lib Go.Maps

def keyL (x : Nd) : Lit := .string (keyB x.1 x.2)
/-- A map from keys to refs: those of A have their places, those of B are in it. -/
def MpAt (w : World) (b m : Nat) (A B : List Lit) : Prop := ∃ D : DataW Unit, w.ownsMap Try.prog 9 (plainElem Try.prog 3) b m D ∧ (∀ kl, Maps.has D kl = true ↔ kl ∈ A ∨ kl ∈ B) ∧ ∀ i (h : i < A.length), D.atKey A[i] (.lit (.int .i64 0)) = .lit (.int .i64 ((i : Int) + 2))
theorem MpAt.congr {w w' : World} {b m : Nat} {A B : List Lit} (h : MpAt w b m A B) (e : w'.heap[b]? = w.heap[b]?) : MpAt w' b m A B := by
  obtain ⟨D, ⟨es, cl, h1, h2⟩, h3⟩ := h
  exact ⟨D, ⟨es, cl, e.trans h1, h2⟩, h3⟩
theorem MpAt.blk {w : World} {b m : Nat} {A B : List Lit} (h : MpAt w b m A B) : ∃ es cl, w.heap[b]? = some (.map es cl) := by
  obtain ⟨D, ⟨es, cl, h1, h2⟩, h3⟩ := h
  exact ⟨es, cl, h1⟩
theorem MpAt.lt {w : World} {b m : Nat} {A B : List Lit} (h : MpAt w b m A B) : b < w.heap.size := by
  obtain ⟨D, h1, _⟩ := h
  exact h1.lt
theorem MpAt.made (w : World) : MpAt (w.alloc (.map #[] 0)) w.heap.size 0 [] [] :=
  ⟨.map [], World.ownsMap_made w Try.prog 9 _, fun kl => by simp [Maps.has_eq], fun i h => by cases h⟩
theorem MpAt.below {w w' : World} {b m : Nat} {A B : List Lit} (h : MpAt w b m A B) (x : Below w.heap.size w w') : MpAt w' b m A B := h.congr (x.block b h.lt)
theorem MpAt.kept {F : Nat → Prop} {w w' : World} {b m : Nat} {A B : List Lit} (h : MpAt w b m A B) (x : Kept F w w') (hF : ¬ F b) : MpAt w' b m A B := h.congr (x.block b h.lt hF)
/-- A node, where its kids lie. -/
structure ND where
  lv : Int
  ks : List Int
  kb : Nat
  kc : Nat
def ND.nd (x : ND) : Nd := (x.lv, x.ks)
def ndC (R : List ND) : List Value := R.flatMap fun x => [.int .i64 x.lv, .slice (some ⟨x.kb, 0, none⟩) x.ks.length x.kc]
theorem ndC_length : ∀ R : List ND, (ndC R).length = R.length * 2
  | [] => rfl
  | x :: R => by
    have := ndC_length R
    simp only [ndC, List.flatMap_cons, List.length_append, List.length_cons, List.length_nil] at *
    omega
theorem ndC_append (R T : List ND) : ndC (R ++ T) = ndC R ++ ndC T := by simp [ndC]
theorem ndC_take : ∀ (R : List ND) (n : Nat), ndC (R.take n) = (ndC R).take (n * 2)
  | R, 0 => by simp [ndC]
  | [], n + 1 => by simp [ndC]
  | x :: R, n + 1 => by
    have := ndC_take R n
    simp only [ndC, List.take_succ_cons, List.flatMap_cons] at *
    rw [this, Nat.succ_mul]
    rfl
theorem ndC_get : ∀ (R : List ND) (i : Nat) (h : i < R.length), (ndC R)[i * 2]? = some (.int .i64 (R[i]).lv) ∧ (ndC R)[i * 2 + 1]? = some (.slice (some ⟨(R[i]).kb, 0, none⟩) (R[i]).ks.length (R[i]).kc)
  | x :: R, 0, _ => by simp [ndC]
  | x :: R, i + 1, h => by
    have h' : i < R.length := by simpa using h
    have := ndC_get R i h'
    simp only [ndC, List.flatMap_cons] at *
    rw [Nat.succ_mul]
    simpa using this
theorem ndC_one (R : List ND) : ∀ u ∈ ndC R, u.oneCell' = true := fun u hu => by
  obtain ⟨x, _, h⟩ := List.mem_flatMap.1 hu
  simp at h
  rcases h with rfl | rfl <;> simp [Value.oneCell']
/-- The program's arena; P: the blocks that it has. -/
structure CAx (w : World) (a : Nat) (S : List Int) (M : Int) (R : List ND) (m : Nat) (P : Nat → Prop) (sb sc : Nat) (nv : Value) (mb : Nat) : Prop where
  blk : w.heap[a]? = some (.cells #[.slice (some ⟨sb, 0, none⟩) S.length sc, .int .i64 M, nv, .map (some mb)] 76 (0, 0))
  sz : ZBk w sb S
  row : w.ownsRow 0 58 2 nv R.length (ndC R)
  kid : ∀ x ∈ R, ZBk w x.kb x.ks
  map : MpAt w mb m (R.map fun x => keyL x.nd) []
  pa : P a
  ps : P sb
  pn : ∀ k, nv.ownBlock = some k → P k
  pm : P mb
  pk : ∀ x ∈ R, P x.kb
  plt : ∀ k, P k → k < w.heap.size
  ok : Ok S M (R.map ND.nd)
def CA (w : World) (a : Nat) (S : List Int) (M : Int) (N : List Nd) (m : Nat) (P : Nat → Prop) : Prop := ∃ R sb sc nv mb, CAx w a S M R m P sb sc nv mb ∧ R.map ND.nd = N
section
variable {w w' : World} {a : Nat} {S : List Int} {M : Int} {R : List ND} {N : List Nd} {m : Nat} {P F : Nat → Prop} {sb sc mb : Nat} {nv : Value}
theorem CAx.kept (h : CAx w a S M R m P sb sc nv mb) (hk : Kept F w w') (hF : ∀ k, P k → ¬ F k) : CAx w' a S M R m P sb sc nv mb :=
  ⟨(hk.block a (h.plt a h.pa) (hF a h.pa)).trans h.blk, h.sz.kept hk (hF _ h.ps), own_kept h.row hk (fun k hb => hF k (h.pn k hb)), fun x hx => (h.kid x hx).kept hk (hF _ (h.pk x hx)), h.map.kept hk (hF _ h.pm), h.pa, h.ps, h.pn, h.pm, h.pk, fun k hp => Nat.lt_of_lt_of_le (h.plt k hp) hk.size, h.ok⟩
theorem CAx.below (h : CAx w a S M R m P sb sc nv mb) (x : Below w.heap.size w w') : CAx w' a S M R m P sb sc nv mb := h.kept (F := fun _ => False) (Kept.of_below x) (fun _ _ h => h)
theorem CA.kept (h : CA w a S M N m P) (hk : Kept F w w') (hF : ∀ k, P k → ¬ F k) : CA w' a S M N m P := by
  obtain ⟨R, sb, sc, nv, mb, h1, h2⟩ := h
  exact ⟨R, sb, sc, nv, mb, h1.kept hk hF, h2⟩
theorem CA.below (h : CA w a S M N m P) (x : Below w.heap.size w w') : CA w' a S M N m P := h.kept (F := fun _ => False) (Kept.of_below x) (fun _ _ h => h)
theorem CA.ok (h : CA w a S M N m P) : Ok S M N := by
  obtain ⟨R, sb, sc, nv, mb, h1, rfl⟩ := h
  exact h1.ok
theorem CA.plt (h : CA w a S M N m P) {k : Nat} (hk : P k) : k < w.heap.size := by
  obtain ⟨R, sb, sc, nv, mb, h1, rfl⟩ := h
  exact h1.plt k hk
theorem CA.mono (h : CA w a S M N m P) {m' : Nat} (hm : m ≤ m') : CA w a S M N m' P := by
  obtain ⟨R, sb, sc, nv, mb, h1, rfl⟩ := h
  obtain ⟨D, ⟨es, cl, g1, g2, g3, g4⟩, g5⟩ := h1.map
  exact ⟨R, sb, sc, nv, mb, ⟨h1.blk, h1.sz, h1.row, h1.kid, ⟨D, ⟨es, cl, g1, g2, Nat.le_trans g3 hm, g4⟩, g5⟩, h1.pa, h1.ps, h1.pn, h1.pm, h1.pk, h1.plt, h1.ok⟩, rfl⟩
theorem CAx.cells (h : CAx w a S M R m P sb sc nv mb) : w.cell? ⟨a, 0, none⟩ = some (.slice (some ⟨sb, 0, none⟩) S.length sc) ∧ w.cell? ⟨a, 1, none⟩ = some (.int .i64 M) ∧ w.cell? ⟨a, 2, none⟩ = some nv ∧ w.cell? ⟨a, 3, none⟩ = some (.map (some mb)) := by
  refine ⟨?_, ?_, ?_, ?_⟩ <;> (rw [cell_of_row w a _ _ _ _ h.blk]; rfl)
theorem CAx.few (h : CAx w a S M R m P sb sc nv mb) : R.length ≤ 8192 := by
  have h1 := h.ok.few
  have h2 := h.ok.m1
  rw [List.length_map] at h1
  omega
theorem CAx.shape (h : CAx w a S M R m P sb sc nv mb) : ∃ ao cap, nv = .slice ao R.length cap ∧ (0 < R.length → ∃ g, ao = some ⟨g, 0, none⟩) := own_shape h.row
theorem CAx.node (h : CAx w a S M R m P sb sc nv mb) {g cap n : Nat} (hv : nv = .slice (some ⟨g, 0, none⟩) n cap) {i : Nat} (hi : i < R.length) : w.cell? ⟨g, i * 2, none⟩ = some (.int .i64 (R[i]).lv) ∧ w.cell? ⟨g, i * 2 + 1, none⟩ = some (.slice (some ⟨(R[i]).kb, 0, none⟩) (R[i]).ks.length (R[i]).kc) := by
  have hr := h.row
  subst hv
  have hn : n = R.length := by
    rcases hr.2 with ⟨e, _⟩ | ⟨g', cap', cur, e, _⟩
    · cases e
    · injection e with _ e _
  subst hn
  obtain ⟨g1, g2⟩ := ndC_get R i hi
  exact ⟨(World.ownsRow.cellAt hr (i * 2) (by omega)).trans g1, (World.ownsRow.cellAt hr (i * 2 + 1) (by omega)).trans g2⟩
end
def isN (n : Nat) (f : Int) : Bool := decide (2 ≤ f) && decide (f < (n : Int) + 2)
theorem isN_true {n : Nat} {f : Int} (h1 : 2 ≤ f) (h2 : f < (n : Int) + 2) : isN n f = true := by simp [isN, h1, h2]
theorem isN_lo {n : Nat} {f : Int} (h1 : ¬ 2 ≤ f) : isN n f = false := by simp [isN, h1]
theorem isN_hi {n : Nat} {f : Int} (h2 : ¬ f < (n : Int) + 2) : isN n f = false := by simp only [isN, decide_eq_false h2, Bool.and_false]
section
variable {w : World} {a : Nat} {S : List Int} {M : Int} {R : List ND} {N : List Nd} {m : Nat} {P : Nat → Prop} {sb sc mb : Nat} {nv : Value}
set_option maxRecDepth 100000 in
theorem isNode_any (f : Int) (h : CAx w a S M R m P sb sc nv mb) : Calls Try.prog 51 #[.pointer (some ⟨a, 0, none⟩), .int .i64 f] w fun e w' => e = .returned (.bool (isN R.length f)) ∧ w' = w := by
  obtain ⟨c0, c1, c2, c3⟩ := h.cells
  have hf := h.few
  obtain ⟨ao, cap, rfl, _⟩ := h.shape
  have e1 : IntKind.i64.wrap (2 + (R.length : Int)) = (R.length : Int) + 2 := by simp [IntKind.wrap, IntKind.bits, IntKind.signed]; omega
  clear h
  generalize R.length = n at *
  by_cases h1 : 2 ≤ f
  · by_cases h2 : f < (n : Int) + 2
    · rw [isN_true h1 h2]
      go_enter Try.func51, Try.ntmps51
      go_wp2
      go_ret
      exact ⟨rfl, rfl⟩
    · rw [isN_hi h2]
      go_enter Try.func51, Try.ntmps51
      go_wp2
      go_ret
      exact ⟨rfl, rfl⟩
  · rw [isN_lo h1]
    go_enter Try.func51, Try.ntmps51
    go_wp2
    go_ret
    exact ⟨rfl, rfl⟩
def hasN (n : Nat) (f : Int) : Bool := decide (0 ≤ f) && decide (f < (n : Int) + 2)
set_option maxRecDepth 100000 in
theorem has_any (f : Int) (h : CAx w a S M R m P sb sc nv mb) : Calls Try.prog 78 #[.pointer (some ⟨a, 0, none⟩), .int .i64 f] w fun e w' => e = .returned (.bool (hasN R.length f)) ∧ w' = w := by
  have HN := hide (isNode_any f h)
  clear h
  generalize R.length = n at *
  by_cases h0 : 0 ≤ f
  · by_cases h1 : f < 2
    · rw [show hasN n f = true by simp only [hasN, decide_eq_true h0, Bool.true_and]; exact decide_eq_true (by omega)]
      clear HN
      go_enter Try.func78, Try.ntmps78
      go_wp2
      go_ret
      exact ⟨rfl, rfl⟩
    · have HE : Hid (hasN n f = isN n f) := by unfold Hid; simp only [hasN, isN, decide_eq_true h0, decide_eq_true (show 2 ≤ f by omega)]
      go_enter Try.func78, Try.ntmps78
      go_wp2_with (go_at_call 51; refine HN.out.mono ?_; rintro e w1 ⟨rfl, hw1⟩; subst hw1)
      go_ret
      exact ⟨by rw [HE.out]; rfl, rfl⟩
  · have HE : Hid (hasN n f = isN n f) := by unfold Hid; rw [isN_lo (by omega)]; simp only [hasN, decide_eq_false h0, Bool.false_and]
    go_enter Try.func78, Try.ntmps78
    go_wp2_with (go_at_call 51; refine HN.out.mono ?_; rintro e w1 ⟨rfl, hw1⟩; subst hw1)
    go_ret
    exact ⟨by rw [HE.out]; rfl, rfl⟩
theorem lvl_node {f : Int} (h1 : 2 ≤ f) (h2 : f < (R.length : Int) + 2) : ∃ i, ∃ h : i < R.length, f = (i : Int) + 2 ∧ lvl S (R.map ND.nd) f = (R[i]).lv := by
  refine ⟨(f - 2).toNat, by omega, by omega, ?_⟩
  unfold lvl
  rw [List.length_map, if_pos ⟨h1, h2⟩]
  simp [List.getD_eq_getElem?_getD, show (f - 2).toNat < R.length by omega, ND.nd]
theorem lvl_none {f : Int} (h : ¬ (2 ≤ f ∧ f < (R.length : Int) + 2)) : lvl S (R.map ND.nd) f = (S.length : Int) := by
  unfold lvl
  rw [List.length_map, if_neg h]
set_option maxRecDepth 100000 in
theorem level_any (f : Int) (h : CAx w a S M R m P sb sc nv mb) : Calls Try.prog 62 #[.pointer (some ⟨a, 0, none⟩), .int .i64 f] w fun e w' => e = .returned (.int .i64 (lvl S (R.map ND.nd) f)) ∧ w' = w := by
  have HN := isNode_any f h
  by_cases hc : 2 ≤ f ∧ f < (R.length : Int) + 2
  · obtain ⟨i, hi, rfl, e⟩ := lvl_node (S := S) hc.1 hc.2
    rw [e]
    rw [isN_true hc.1 hc.2] at HN
    have HN' := hide HN
    clear HN e hc
    obtain ⟨c0, c1, c2, c3⟩ := h.cells
    have hfw := h.few
    obtain ⟨ao, cap, hv, hp⟩ := h.shape
    obtain ⟨g, rfl⟩ := hp (by omega)
    subst hv
    obtain ⟨d0, d1⟩ := h.node rfl hi
    have e1 : IntKind.i64.wrap ((i : Int) + 2 - 2) = (i : Int) := by simp [IntKind.wrap, IntKind.bits, IntKind.signed]; omega
    have hi' : (i : Int) < (R.length : Int) := by omega
    clear h hp d1
    generalize (R[i]).lv = lv at *
    generalize R.length = n at *
    go_enter Try.func62, Try.ntmps62
    go_wp2_with (go_at_call 51; refine HN'.out.mono ?_; rintro e w1 ⟨rfl, hw1⟩; subst hw1)
    go_ret
    exact ⟨rfl, rfl⟩
  · rw [lvl_none hc]
    have e0 : isN R.length f = false := by
      by_cases h1 : 2 ≤ f
      · exact isN_hi (fun h2 => hc ⟨h1, h2⟩)
      · exact isN_lo h1
    rw [e0] at HN
    have HN' := hide HN
    clear HN e0 hc
    obtain ⟨c0, c1, c2, c3⟩ := h.cells
    clear h
    go_enter Try.func62, Try.ntmps62
    go_wp2_with (go_at_call 51; refine HN'.out.mono ?_; rintro e w1 ⟨rfl, hw1⟩; subst hw1)
    go_ret
    exact ⟨rfl, rfl⟩
set_option maxRecDepth 100000 in
theorem len_any (h : CAx w a S M R m P sb sc nv mb) : Calls Try.prog 20 #[.pointer (some ⟨a, 0, none⟩)] w fun e w' => e = .returned (.int .i64 (R.length : Int)) ∧ w' = w := by
  obtain ⟨c0, c1, c2, c3⟩ := h.cells
  obtain ⟨ao, cap, rfl, _⟩ := h.shape
  clear h
  go_enter Try.func20, Try.ntmps20
  go_wp2
  go_ret
  exact ⟨rfl, rfl⟩
end
end Go.Proofs.Ytaafeflbanoncaa
