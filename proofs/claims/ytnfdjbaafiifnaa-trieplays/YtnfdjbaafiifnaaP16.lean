/-
  walk and Rows by their contracts. No condition.
-/
import Derived.Test.YtnfdjbaafiifnaaP14
import Derived.Test.YtnfdjbaafiifnaaP15
namespace Go.Proofs.Ytnfdjbaafiifnaa
open Go.RowKit Go.Lib

/-- A node that was there below B. -/
def NodeB (w : World) (B : Nat) : Tr → Value → Prop
  | .leaf l, v => ∃ b, v = .pointer (some ⟨b, 0, none⟩) ∧ b < B ∧ w.heap[b]? = some (.cells #[.int .i64 l, .pointer none, .pointer none] 98 (0, 0))
  | .fork x y, v => ∃ b p q, v = .pointer (some ⟨b, 0, none⟩) ∧ b < B ∧ w.heap[b]? = some (.cells #[.int .i64 0, .pointer (some p), q] 98 (0, 0)) ∧ NodeB w B x (.pointer (some p)) ∧ NodeB w B y q
theorem NodeAt.inB {w : World} : ∀ {t : Tr} {v : Value}, NodeAt w t v → NodeB w w.heap.size t v
  | .leaf _, _, ⟨b, e, h⟩ => ⟨b, e, lt_of_block h, h⟩
  | .fork _ _, _, ⟨b, p, q, e, h, hx, hy⟩ => ⟨b, p, q, e, lt_of_block h, h, hx.inB, hy.inB⟩
theorem NodeB.node {w : World} {B : Nat} : ∀ {t : Tr} {v : Value}, NodeB w B t v → NodeAt w t v
  | .leaf _, _, ⟨b, e, _, h⟩ => ⟨b, e, h⟩
  | .fork _ _, _, ⟨b, p, q, e, _, h, hx, hy⟩ => ⟨b, p, q, e, h, hx.node, hy.node⟩
theorem NodeB.below {w w' : World} {B : Nat} (hb : Below B w w') : ∀ {t : Tr} {v : Value}, NodeB w B t v → NodeB w' B t v
  | .leaf _, _, ⟨b, e, hl, h⟩ => ⟨b, e, hl, (hb.block b hl).trans h⟩
  | .fork _ _, _, ⟨b, p, q, e, hl, h, hx, hy⟩ => ⟨b, p, q, e, hl, (hb.block b hl).trans h, hx.below hb, hy.below hb⟩
theorem OutS.below {B ob : Nat} {R : List Rw} {w w' : World} (h : OutS B ob R w) (hb : Below w.heap.size w w') : OutS B ob R w' := by
  obtain ⟨v, h1, h2⟩ := h.ex
  exact ⟨h.le, v, (hb.block ob (lt_of_block h1)).trans h1, own_below h2 hb⟩
theorem rows_length : ∀ (t : Tr) (a k : Nat), t.dep + k ≤ 32 → (t.rows a k).length ≤ 2 ^ (32 - k)
  | .leaf _, _, k, _ => Nat.pow_pos (by decide)
  | .fork x y, a, k, h => by
    simp only [Tr.dep] at h
    have h1 := rows_length x a (k + 1) (by omega)
    have h2 := rows_length y (a + 2 ^ (31 - k)) (k + 1) (by omega)
    rw [Tr.rows, List.length_append]
    rw [show 32 - (k + 1) = 31 - k by omega] at h1 h2
    rw [show 32 - k = (31 - k) + 1 by omega, Nat.pow_succ]
    omega

set_option maxRecDepth 100000 in
set_option maxHeartbeats 4000000 in
theorem walk_any (B ob : Nat) : ∀ (t : Tr) (n : Value) (a k : Nat) (R : List Rw) (w : World), t.dep + k ≤ 32 → a + 2 ^ (32 - k) ≤ 4294967296 → R.length ≤ a → NodeB w B t n → OutS B ob R w → B ≤ w.heap.size →
    Calls Try.prog 34 #[n, .agg #[.int .i64 a, .int .i64 k], .func (.func 35) #[] #[.pointer (some ⟨ob, 0, none⟩)]] w fun e w' => e = .returned (.tuple #[]) ∧ OutS B ob (R ++ t.rows a k) w' ∧ Below B w w' ∧ KeepT w w'
  | .leaf l, n, a, k, R, w, hd, ha, hR, hn, ho, hB => by
    have hw := fun W (x : Below w.heap.size w W) => isWhole_any W (hn.node.below x)
    have e1 : (Tr.leaf l).isLeaf = true := rfl
    simp only [e1] at hw
    obtain ⟨b, rfl, hb, hc⟩ := hn
    have hbw : b < w.heap.size := by omega
    have hR4 : R.length ≤ 4294967296 := by
      have := Nat.pow_pos (n := 32 - k) (show 0 < 2 by decide)
      omega
    have hX : Below w.heap.size w (w.alloc (.cells #[.int .i64 a, .int .i64 k] 42)) := al (Below.refl _ _) _
    have hP := heap_alloc_new w (.cells #[.int .i64 a, .int .i64 k] 42)
    have hs := fun W (x : Below w.heap.size w W) => see_any a k l B ob R W (ho.below x) (Nat.le_trans hB x.size) hR4
    have HS := hide hs
    have HW := hide hw
    have HB := hide hB
    clear hs hw ho hR hR4 hd ha e1 hb hB
    go_enter Try.func34, Try.ntmps34
    go_wp2_with (first
      | (go_at_call 54; refine (HW.out _ hX).mono ?_; rintro e w1 ⟨rfl, hw1⟩; subst hw1))
    generalize w.alloc (.cells #[.int .i64 a, .int .i64 k] 42) = W at *
    have HC := hide ((hX.block b hbw).trans hc)
    have c0 : W.cell? ⟨b, 0, none⟩ = some (.int .i64 l) := by rw [cell_of_row W b 0 _ _ _ HC.out]; rfl
    have c1 : W.cell? ⟨w.heap.size, 0, none⟩ = some (.int .i64 a) := by rw [cell_of_row W w.heap.size 0 _ _ _ hP]; rfl
    have c2 : W.cell? ⟨w.heap.size, 1, none⟩ = some (.int .i64 k) := by rw [cell_of_row W w.heap.size 1 _ _ _ hP]; rfl
    have HP := hide hP
    have HX := hide hX
    clear hP hX hc
    go_region_held3 (fun w' => w'.cell? ⟨b, 0, none⟩ = some (.int .i64 l) ∧ w'.cell? ⟨w.heap.size, 0, none⟩ = some (.int .i64 a) ∧ w'.cell? ⟨w.heap.size, 1, none⟩ = some (.int .i64 k)) (first | assumption | (simp [go_sem, *]; done))
      (first | (go_at_call 35; refine (HS.out _ HX.out.drew).mono ?_; rintro e w2 ⟨rfl, o2, x2, t2⟩; have O2 := hide o2; have X2 := hide ((HX.out.mono HB.out).drew.trans x2); have y2 : KeepT W w2 := (KeepT.trans (KeepT.below (Below.refl _ _).drew) t2); have T2 := hide (KeepT.trans (KeepT.below HX.out) y2); have d0 : w2.cell? ⟨b, 0, none⟩ = some (.int .i64 l) := (by rw [cell_of_row w2 b 0 _ _ _ (y2 _ _ _ _ (by decide) (by decide) HC.out)]; rfl); have d1 : w2.cell? ⟨w.heap.size, 0, none⟩ = some (.int .i64 a) := (by rw [cell_of_row w2 w.heap.size 0 _ _ _ (y2 _ _ _ _ (by decide) (by decide) HP.out)]; rfl); have d2 : w2.cell? ⟨w.heap.size, 1, none⟩ = some (.int .i64 k) := (by rw [cell_of_row w2 w.heap.size 1 _ _ _ (y2 _ _ _ _ (by decide) (by decide) HP.out)]; rfl); clear o2 x2 t2 y2))
    clear c0 c1 c2
    go_wp2
    (try simp only [Exit.inBlock, Exit.then]); refine bodyPost_ret (results_none rfl _ _ _) rfl ?_
    exact ⟨rfl, O2.out, X2.out, T2.out⟩
  | .fork x y, n, a, k, R, w, hd, ha, hR, hn, ho, hB => by
    have hw := fun W (x : Below w.heap.size w W) => isWhole_any W (hn.node.below x)
    have e1 : (Tr.fork x y).isLeaf = false := rfl
    simp only [e1] at hw
    simp only [Tr.dep] at hd
    have hp : 2 ^ (32 - k) = 2 ^ (31 - k) + 2 ^ (31 - k) := by rw [show 32 - k = (31 - k) + 1 by omega, Nat.pow_succ]; omega
    have l1 := rows_length x a (k + 1) (by omega)
    rw [show 32 - (k + 1) = 31 - k by omega] at l1
    obtain ⟨b, p, q, rfl, hb, hc, hx, hy⟩ := hn
    have hbw : b < w.heap.size := by omega
    have ih1 := fun W (z : Below w.heap.size w W) => walk_any B ob x (.pointer (some p)) a (k + 1) R W (by omega) (by rw [show 32 - (k + 1) = 31 - k by omega]; omega) hR (hx.below (z.mono hB)) (ho.below z) (Nat.le_trans hB z.size)
    have ih2 := fun W (z : Below B w W) (o : OutS B ob (R ++ x.rows a (k + 1)) W) => walk_any B ob y q (a + 2 ^ (31 - k)) (k + 1) (R ++ x.rows a (k + 1)) W (by omega) (by rw [show 32 - (k + 1) = 31 - k by omega]; omega) (by rw [List.length_append]; omega) (hy.below z) o (Nat.le_trans hB z.size)
    have hh := fun W => halvesOf_any a k (by omega) (by omega) W
    have hX : Below w.heap.size w (w.alloc (.cells #[.int .i64 a, .int .i64 k] 42)) := al (Below.refl _ _) _
    have HROW : Hid (R ++ (Tr.fork x y).rows a k = (R ++ x.rows a (k + 1)) ++ y.rows (a + 2 ^ (31 - k)) (k + 1)) := by unfold Hid; rw [Tr.rows, List.append_assoc]
    obtain ⟨qa, hqa⟩ : ∃ qa, q = .pointer (some qa) := by
      obtain ⟨b', _, _, e, _⟩ := hy.node.shape
      exact ⟨_, e⟩
    subst hqa
    have HI1 := hide ih1
    have HI2 := hide ih2
    have HW := hide hw
    have HB := hide hB
    have HC := hide hc
    obtain ⟨m, HM⟩ : ∃ m, Hid (m = k + 1) := ⟨_, rfl⟩
    obtain ⟨c, HCc⟩ : ∃ c, Hid (c = a + 2 ^ (31 - k)) := ⟨_, rfl⟩
    rw [← HM.out] at HI1 HI2 HROW
    rw [← HCc.out] at HI2 HROW
    simp only [← HM.out, ← HCc.out] at hh
    clear ih1 ih2 hw ho hR hd ha e1 hb hB hp l1 hx hy hc
    go_enter Try.func34, Try.ntmps34
    go_wp2_with (first
      | (go_at_call 54; refine (HW.out _ hX).mono ?_; rintro e w1 ⟨rfl, hw1⟩; subst hw1)
      | (go_at_call 55; refine (hh _).mono ?_; rintro e w2 ⟨rfl, x2⟩; have X2 := hide (bt hX x2 (Nat.le_refl _)); clear x2))
    have Y2 := hide (al (al X2.out (.cells #[.int .i64 a, .int .i64 m] 42)) (.cells #[.int .i64 c, .int .i64 m] 42))
    have L2 : Hid (((w2.alloc (.cells #[.int .i64 a, .int .i64 m] 42)).alloc (.cells #[.int .i64 c, .int .i64 m] 42)).heap[w2.heap.size]? = some (.cells #[.int .i64 a, .int .i64 m] 42 (0, 0))) := by
      unfold Hid
      rw [push_get _ _ (by simp)]
      exact heap_alloc_new _ _
    have H2 : Hid (((w2.alloc (.cells #[.int .i64 a, .int .i64 m] 42)).alloc (.cells #[.int .i64 c, .int .i64 m] 42)).heap[w2.heap.size + 1]? = some (.cells #[.int .i64 c, .int .i64 m] 42 (0, 0))) := by
      have := heap_alloc_new (w2.alloc (.cells #[.int .i64 a, .int .i64 m] 42)) (.cells #[.int .i64 c, .int .i64 m] 42)
      rwa [show (w2.alloc (.cells #[.int .i64 a, .int .i64 m] 42)).heap.size = w2.heap.size + 1 by simp] at this
    generalize (w2.alloc (.cells #[.int .i64 a, .int .i64 m] 42)).alloc (.cells #[.int .i64 c, .int .i64 m] 42) = W at *
    generalize w2.heap.size = lb at *
    have C2 := hide ((Y2.out.block b hbw).trans HC.out)
    have c1 : W.cell? ⟨b, 1, none⟩ = some (.pointer (some p)) := by rw [cell_of_row W b 1 _ _ _ C2.out]; rfl
    have c2 : W.cell? ⟨lb, 0, none⟩ = some (.int .i64 a) := by rw [cell_of_row W lb 0 _ _ _ L2.out]; rfl
    have c3 : W.cell? ⟨lb, 1, none⟩ = some (.int .i64 m) := by rw [cell_of_row W lb 1 _ _ _ L2.out]; rfl
    clear hX
    go_region_held3 (fun w' => w'.cell? ⟨b, 1, none⟩ = some (.pointer (some p)) ∧ w'.cell? ⟨lb, 0, none⟩ = some (.int .i64 a) ∧ w'.cell? ⟨lb, 1, none⟩ = some (.int .i64 m)) (first | assumption | (simp [go_sem, *]; done))
      (first | (go_at_call 34; refine (HI1.out _ Y2.out.drew).mono ?_; rintro e w3 ⟨rfl, o3, x3, t3⟩; have O3 := hide o3; have X3 := hide ((Y2.out.mono HB.out).drew.trans x3); have y3 : KeepT W w3 := (KeepT.trans (KeepT.below (Below.refl _ _).drew) t3); have T3 := hide (KeepT.trans (KeepT.below Y2.out) y3); have C3 := hide (y3 _ _ _ _ (by decide) (by decide) C2.out); have L3 := hide (y3 _ _ _ _ (by decide) (by decide) L2.out); have H3 := hide (y3 _ _ _ _ (by decide) (by decide) H2.out); have d1 : w3.cell? ⟨b, 1, none⟩ = some (.pointer (some p)) := (by rw [cell_of_row w3 b 1 _ _ _ C3.out]; rfl); have d2 : w3.cell? ⟨lb, 0, none⟩ = some (.int .i64 a) := (by rw [cell_of_row w3 lb 0 _ _ _ L3.out]; rfl); have d3 : w3.cell? ⟨lb, 1, none⟩ = some (.int .i64 m) := (by rw [cell_of_row w3 lb 1 _ _ _ L3.out]; rfl); clear o3 x3 t3 y3))
    clear c1 c2 c3 d1 d2 d3
    have f1 : w3.cell? ⟨b, 2, none⟩ = some (.pointer (some qa)) := by rw [cell_of_row w3 b 2 _ _ _ C3.out]; rfl
    have f2 : w3.cell? ⟨lb + 1, 0, none⟩ = some (.int .i64 c) := by rw [cell_of_row w3 (lb + 1) 0 _ _ _ H3.out]; rfl
    have f3 : w3.cell? ⟨lb + 1, 1, none⟩ = some (.int .i64 m) := by rw [cell_of_row w3 (lb + 1) 1 _ _ _ H3.out]; rfl
    go_wp2
    go_region_held3 (fun w' => w'.cell? ⟨b, 2, none⟩ = some (.pointer (some qa)) ∧ w'.cell? ⟨lb + 1, 0, none⟩ = some (.int .i64 c) ∧ w'.cell? ⟨lb + 1, 1, none⟩ = some (.int .i64 m)) (first | assumption | (simp [go_sem, *]; done))
      (first | (go_at_call 34; refine (HI2.out _ X3.out.drew (O3.out.below (Below.refl _ _).drew)).mono ?_; rintro e w4 ⟨rfl, o4, x4, t4⟩; have O4 := hide o4; have X4 := hide (X3.out.drew.trans x4); have y4 : KeepT w3 w4 := (KeepT.trans (KeepT.below (Below.refl _ _).drew) t4); have T4 := hide (KeepT.trans T3.out y4); have C4 := y4 _ _ _ _ (by decide) (by decide) C3.out; have H4 := y4 _ _ _ _ (by decide) (by decide) H3.out; have d1 : w4.cell? ⟨b, 2, none⟩ = some (.pointer (some qa)) := (by rw [cell_of_row w4 b 2 _ _ _ C4]; rfl); have d2 : w4.cell? ⟨lb + 1, 0, none⟩ = some (.int .i64 c) := (by rw [cell_of_row w4 (lb + 1) 0 _ _ _ H4]; rfl); have d3 : w4.cell? ⟨lb + 1, 1, none⟩ = some (.int .i64 m) := (by rw [cell_of_row w4 (lb + 1) 1 _ _ _ H4]; rfl); clear o4 x4 t4 y4 C4 H4))
    clear f1 f2 f3 d1 d2 d3
    go_wp2
    go_end0
    exact ⟨rfl, by rw [HROW.out]; exact O4.out, X4.out, T4.out⟩
end Go.Proofs.Ytnfdjbaafiifnaa
/-
  Rows by its contract. No condition.
-/
namespace Go.Proofs.Ytnfdjbaafiifnaa
open Go.RowKit Go.Lib

set_option maxRecDepth 100000 in
set_option maxHeartbeats 1000000 in
theorem rows_any {t : Tr} {v : Value} (w : World) (hd : t.dep ≤ 32) (h : TrieAt w t v) : Calls Try.prog 16 #[v] w fun e w' => (∃ r, e = .returned r ∧ OwnR w' w.heap.size r (t.rows 0 0)) ∧ Below w.heap.size w w' := by
  have hmf : ∀ (fn : Fn) (first cap : Array Value) (w : World), (Instr.makeFunc fn first cap).run Try.prog w = .ok (.func fn first cap) w := fun _ _ _ _ => rfl
  obtain ⟨b, r, rfl, h1, h2⟩ := h
  have hX : Below w.heap.size w (w.alloc (.cells #[.slice none 0 0] 44)) := al (Below.refl _ _) _
  have hO : OutS w.heap.size w.heap.size [] (w.alloc (.cells #[.slice none 0 0] 44)) := ⟨Nat.le_refl _, _, heap_alloc_new _ _, World.ownsRow_nil _ _ 65 3⟩
  have hw := walk_any w.heap.size w.heap.size t r 0 0 [] (w.alloc (.cells #[.slice none 0 0] 44)) (by omega) (by decide) (Nat.le_refl _) (h2.inB.below hX) hO hX.size
  have hb := lt_of_block h1
  have c0 : (w.alloc (.cells #[.slice none 0 0] 44)).cell? ⟨b, 0, none⟩ = some r := by rw [cell_of_row _ b 0 _ _ _ ((hX.block b hb).trans h1)]; rfl
  obtain ⟨br, _, _, rfl, _⟩ := h2.shape
  have HX := hide hX
  clear h1 h2 hO hX
  go_enter Try.func16, Try.ntmps16
  go_wp2_with (go_at_call 34; refine hw.mono ?_; rintro e w2 ⟨rfl, o2, x2, _⟩; obtain ⟨v2, o3, o4⟩ := o2.ex; have c2 : w2.cell? ⟨w.heap.size, 0, none⟩ = some v2 := (by rw [cell_of_row w2 w.heap.size 0 _ _ _ o3]; rfl); obtain ⟨a2, k2, rfl, _⟩ := own_shape o4; have O4 := hide o4; have X2 := hide (HX.out.trans x2); clear x2 o2 o3 o4 hw)
  go_ret
  exact ⟨⟨_, rfl, O4.out⟩, X2.out⟩
end Go.Proofs.Ytnfdjbaafiifnaa
