/-
  Make by its contract. Condition: a list is no longer than a process can hold.
-/
import Derived.Test.YtnfdjbaafiifnaaP17
import Derived.Test.YtnfdjbaafiifnaaP14
import Derived.Deep.RegionWith
namespace Go.Proofs.Ytnfdjbaafiifnaa
open Go.RowKit Go.Lib

set_option maxRecDepth 100000 in
set_option maxHeartbeats 1000000 in
theorem make_any (L : List RZ) (ao : Option Addr) (cap : Nat) (w : World) (hl : L.length ≤ 140737488351232) (hcap : L.length ≤ cap) (hat : RwAt w ao L) :
    Calls Try.prog 22 #[.slice ao L.length cap] w fun e w' => ((∃ t b, rdT 32 0 0 L = some (t, []) ∧ e = .returned (.tuple #[.pointer (some ⟨b, 0, none⟩), .int .i64 0]) ∧ TrieAt w' t (.pointer (some ⟨b, 0, none⟩)) ∧ w.heap.size ≤ b) ∨ ((∀ t, rdT 32 0 0 L ≠ some (t, [])) ∧ e = .returned (.tuple #[.pointer none, .int .i64 40]))) ∧ Below w.heap.size w w' := by
  have hr := read_any 32 0 0 L ao cap w rfl (by decide) hl hcap hat
  simp only [RdIs] at hr
  have HR := hide hr
  clear hr hat
  go_enter Try.func22, Try.ntmps22
  go_wp2_with (fail)
  refine HR.out.mono ?_
  rintro e w2 ⟨x2, h2⟩
  have X2 := hide x2
  clear x2 HR
  rcases h2 with ⟨t, L', p, a2, c2, r2, rfl, n2, _, _⟩ | ⟨r2, p, a2, n2, c2, rfl⟩
  · have N2 := hide n2
    have R2 := hide r2
    clear n2 r2
    by_cases h0 : L'.length = 0
    · obtain rfl : L' = [] := List.eq_nil_of_length_eq_zero h0
      simp only [List.length_nil]
      clear h0
      go_wp2
      go_ret2
      exact ⟨.inl ⟨_, _, R2.out, rfl, ⟨_, _, rfl, heap_alloc_new _ _, N2.out.below (al (Below.refl _ _) _)⟩, X2.out.size⟩, al X2.out _⟩
    · have h1 : (0 : Int) < (L'.length : Int) := by omega
      have HR2 : Hid (∀ t, rdT 32 0 0 L ≠ some (t, [])) := fun t' ht => by
        have := R2.out.symm.trans ht
        injection this with this
        injection this with _ this
        rw [this] at h0
        exact h0 rfl
      go_wp2
      go_ret2
      exact ⟨.inr ⟨HR2.out, rfl⟩, X2.out⟩
  · have HR2 : Hid (∀ t, rdT 32 0 0 L ≠ some (t, [])) := fun t' ht => by
      have := r2.symm.trans ht
      cases this
    clear r2
    go_wp2
    go_ret2
    exact ⟨.inr ⟨HR2.out, rfl⟩, X2.out⟩
end Go.Proofs.Ytnfdjbaafiifnaa
/-
  Rows of trees: read again, what they say, their one form. No program. No condition.
-/
namespace Go.Proofs.Ytnfdjbaafiifnaa

def zr (R : List Rw) : List RZ := R.map fun r => (((r.1.1 : Int), (r.1.2 : Int)), r.2)
theorem zr_append (R S : List Rw) : zr (R ++ S) = zr R ++ zr S := by simp [zr]
theorem zr_length (R : List Rw) : (zr R).length = R.length := by simp [zr]
/-- The head of a tree's rows. -/
theorem rows_head : ∀ (t : Tr) (a k : Nat), ∃ k' l R, t.rows a k = ((a, k'), l) :: R ∧ k ≤ k' ∧ (t.isLeaf = false → k < k')
  | .leaf l, a, k => ⟨k, l, [], rfl, Nat.le_refl _, fun h => by cases h⟩
  | .fork x y, a, k => by
    obtain ⟨k', l, R, h1, h2, _⟩ := rows_head x a (k + 1)
    exact ⟨k', l, R ++ y.rows (a + 2 ^ (31 - k)) (k + 1), by rw [Tr.rows, h1]; rfl, by omega, fun _ => by omega⟩
/-- What was told is read again. -/
theorem rdT_rows : ∀ (t : Tr) (a k d : Nat) (M : List RZ), t.nf → t.labs Lab → t.dep ≤ d → rdT d a k (zr (t.rows a k) ++ M) = some (t, M)
  | .leaf l, a, k, d, M, _, hl, _ => by
    have hl : Lab l := hl
    show rdT d a k ((((a : Int), (k : Int)), l) :: ([] ++ M)) = _
    unfold rdT
    rw [if_pos rfl, if_pos hl]
    rfl
  | .fork x y, a, k, 0, M, _, _, hd => by simp [Tr.dep] at hd
  | .fork x y, a, k, d + 1, M, hn, hl, hd => by
    have hx := rdT_rows x a (k + 1) d (zr (y.rows (a + 2 ^ (31 - k)) (k + 1)) ++ M) hn.1 hl.1 (by simp [Tr.dep] at hd; omega)
    have hy := rdT_rows y (a + 2 ^ (31 - k)) (k + 1) d M hn.2.1 hl.2 (by simp [Tr.dep] at hd; omega)
    have e : zr ((Tr.fork x y).rows a k) ++ M = zr (x.rows a (k + 1)) ++ (zr (y.rows (a + 2 ^ (31 - k)) (k + 1)) ++ M) := by rw [Tr.rows, zr_append, List.append_assoc]
    rw [e]
    obtain ⟨k', l, R, h1, h2, _⟩ := rows_head x a (k + 1)
    have e2 : zr (x.rows a (k + 1)) ++ (zr (y.rows (a + 2 ^ (31 - k)) (k + 1)) ++ M) = (((a : Int), (k' : Int)), l) :: (zr R ++ (zr (y.rows (a + 2 ^ (31 - k)) (k + 1)) ++ M)) := by rw [h1]; rfl
    rw [e2] at hx ⊢
    unfold rdT
    rw [if_neg (by simp; omega)]
    simp only [hx, hy]
    rcases jn_cases x y with ⟨l', rfl, rfl, _⟩ | ⟨_, hj⟩
    · exact absurd ⟨rfl, rfl⟩ (hn.2.2 l')
    · rw [hj]; rfl
/-- What is read was told. -/
theorem rdT_some : ∀ {d a k : Nat} {L M : List RZ} {t : Tr}, rdT d a k L = some (t, M) → L = zr (t.rows a k) ++ M ∧ t.nf ∧ t.labs Lab ∧ t.dep ≤ d
  | _, _, _, [], _, _, h => by simp [rdT] at h
  | 0, a, k, r :: L, M, t, h => by
    unfold rdT at h
    split at h
    · rename_i hr
      split at h
      · rename_i hl
        injection h with h; injection h with h1 h2; subst h1 h2
        exact ⟨by rw [show r = (((a : Int), (k : Int)), r.2) from Prod.ext hr rfl]; rfl, trivial, hl, Nat.zero_le _⟩
      · cases h
    · cases h
  | d + 1, a, k, r :: L, M, t, h => by
    unfold rdT at h
    split at h
    · rename_i hr
      split at h
      · rename_i hl
        injection h with h; injection h with h1 h2; subst h1 h2
        exact ⟨by rw [show r = (((a : Int), (k : Int)), r.2) from Prod.ext hr rfl]; rfl, trivial, hl, Nat.zero_le _⟩
      · cases h
    · simp only at h
      split at h
      · cases h
      · rename_i x L1 h1
        split at h
        · cases h
        · rename_i y L2 h2
          split at h
          · cases h
          · rename_i hj
            injection h with h; injection h with h3 h4; subst h3 h4
            obtain ⟨a1, a2, a3, a4⟩ := rdT_some h1
            obtain ⟨b1, b2, b3, b4⟩ := rdT_some h2
            rcases jn_cases x y with ⟨l', rfl, rfl, hjl⟩ | ⟨hne, hjf⟩
            · rw [hjl] at hj; exact absurd rfl hj
            · rw [hjf]
              refine ⟨?_, ⟨a2, b2, hne⟩, ⟨a3, b3⟩, by simp [Tr.dep]; omega⟩
              rw [a1, b1, Tr.rows, zr_append, List.append_assoc]
end Go.Proofs.Ytnfdjbaafiifnaa
/-
  Put by its contract. No condition.
-/
namespace Go.Proofs.Ytnfdjbaafiifnaa
open Go.RowKit Go.Lib

theorem TrieAt.set {w : World} {b : Nat} {r r' : Value} {t : Tr} (h : w.heap[b]? = some (.cells #[r] 73 (0, 0))) (hn : NodeAt w t r') : TrieAt (w.setCell ⟨b, 0, none⟩ r') t (.pointer (some ⟨b, 0, none⟩)) := by
  refine ⟨b, r', rfl, by rw [block_setCell h 0 r']; rfl, NodeAt.kept (F := fun k => k = b) (Kept.setCell (F := fun k => k = b) (Kept.refl _ _) rfl _) (fun k hk => ?_) hn⟩
  subst hk
  exact ⟨_, 73, _, h, by decide⟩
instance (a k : Int) : Decidable (Pfx a k) := by unfold Pfx; exact inferInstance
set_option maxRecDepth 100000 in
set_option maxHeartbeats 1000000 in
theorem putT_any {t : Tr} {b : Nat} (a k l : Int) (w : World) (h : TrieAt w t (.pointer (some ⟨b, 0, none⟩))) : Calls Try.prog 18 #[.pointer (some ⟨b, 0, none⟩), .agg #[.int .i64 a, .int .i64 k], .int .i64 l] w fun e w' =>
    ((Pfx a k ∧ Lab l) → e = .returned (.int .i64 0) ∧ TrieAt w' (t.put a.toNat k.toNat l) (.pointer (some ⟨b, 0, none⟩))) ∧ (¬ (Pfx a k ∧ Lab l) → e = .returned (.int .i64 1) ∧ TrieAt w' t (.pointer (some ⟨b, 0, none⟩))) ∧ Kept (fun x => x = b) w w' := by
  obtain ⟨b', r, e, h1, h2⟩ := h
  injection e with e; injection e with e; injection e with e; subst e
  have hr := fun w => range_any a k w
  have hl := fun w => isLabel_any l w
  have HT := hide (show TrieAt w t (.pointer (some ⟨b, 0, none⟩)) from ⟨b, r, rfl, h1, h2⟩)
  have H1 := hide h1
  have H2 := hide h2
  have HB := hide (lt_of_block h1)
  clear h1 h2
  by_cases hp : Pfx a k
  · have e3 : pprE a k = 0 := if_pos hp
    simp only [e3] at hr
    by_cases hq : Lab l
    · simp only [decide_eq_true hq] at hl
      obtain ⟨n, m, rfl, rfl, hm, hn, hmod⟩ := hp.nat
      have hww : IntKind.u32.wrap (n : Int) = n := by simp [IntKind.wrap, IntKind.bits, IntKind.signed]; omega
      have HPQ : Hid (Pfx (n : Int) (m : Int) ∧ Lab l) := ⟨hp, hq⟩
      have HPU := hide (fun W (x : Below w.heap.size w W) => put_any l m t r n W hm (by omega) (H2.out.below x))
      clear hp hq e3 hmod
      go_enter Try.func18, Try.ntmps18
      go_wp2_with (first
        | (go_at_call 19; refine (hr _).mono ?_; rintro e w1 ⟨rfl, x1⟩; have X1 := hide x1; clear x1)
        | (go_at_call 25; refine (hl _).mono ?_; rintro e w1 ⟨rfl, hw1⟩; subst hw1))
      have Y1 : Hid (Below w.heap.size w (w1.alloc (.cells #[.int .i64 (rngL n m), .int .i64 (rngH n m)] 58))) := al (bt (al (Below.refl _ _) _) X1.out (Nat.le_refl _)) _
      have Z1 : Hid ((w1.alloc (.cells #[.int .i64 (rngL n m), .int .i64 (rngH n m)] 58)).heap[w.heap.size]? = some (.cells #[.int .i64 n, .int .i64 m] 42 (0, 0))) := by
        unfold Hid
        rw [push_get _ _ (Nat.lt_of_lt_of_le (by simp) X1.out.size), X1.out.block _ (by simp)]
        exact heap_alloc_new _ _
      generalize w1.alloc (.cells #[.int .i64 (rngL n m), .int .i64 (rngH n m)] 58) = W at *
      have B1 := hide ((Y1.out.block b HB.out).trans H1.out)
      have c0 : W.cell? ⟨b, 0, none⟩ = some r := by rw [cell_of_row W b 0 _ _ _ B1.out]; rfl
      have c1 : W.cell? ⟨w.heap.size, 0, none⟩ = some (.int .i64 n) := by rw [cell_of_row W w.heap.size 0 _ _ _ Z1.out]; rfl
      have c2 : W.cell? ⟨w.heap.size, 1, none⟩ = some (.int .i64 m) := by rw [cell_of_row W w.heap.size 1 _ _ _ Z1.out]; rfl
      clear X1 hr hl
      go_region_with (first
        | (go_at_call 36; refine (HPU.out _ Y1.out.drew).mono ?_; rintro e w3 ⟨⟨v3, rfl, n3⟩, x3⟩; have N3 := hide n3; have X3 := hide ((Below.refl _ _).drew.trans x3); have B3 := hide ((X3.out.block b (Nat.lt_of_lt_of_le HB.out Y1.out.size)).trans B1.out); have c3 : w3.cell? ⟨b, 0, none⟩ = some r := (by rw [cell_of_row w3 b 0 _ _ _ B3.out]; rfl); have f3 := frozen_of_row w3 b 0 _ _ B3.out; obtain ⟨bv, _, _, rfl, _⟩ := n3.shape; clear n3 x3))
      all_goals
        have KK := hide (Kept.setCell (F := fun x => x = b) (p := ⟨b, 0, none⟩) (Kept.of_below (F := fun x => x = b) (bt Y1.out X3.out (Nat.le_refl _))) rfl (.pointer (some ⟨bv, 0, none⟩)))
        have TT := hide (TrieAt.set B3.out N3.out)
        clear c3 f3
        go_wp2
        go_ret
        exact ⟨fun _ => ⟨rfl, TT.out⟩, fun h => absurd HPQ.out h, KK.out⟩
    · simp only [decide_eq_false hq] at hl
      have HPQ : Hid (¬ (Pfx a k ∧ Lab l)) := fun h => hq h.2
      clear hp hq e3
      go_enter Try.func18, Try.ntmps18
      go_wp2_with (first
        | (go_at_call 19; refine (hr _).mono ?_; rintro e w1 ⟨rfl, x1⟩; have X1 := hide x1; clear x1)
        | (go_at_call 25; refine (hl _).mono ?_; rintro e w1 ⟨rfl, hw1⟩; subst hw1))
      go_ret
      have Y1 := al (bt (al (Below.refl _ w) (.cells #[.int .i64 a, .int .i64 k] 42)) X1.out (Nat.le_refl _)) (.cells #[.int .i64 (rngL a k), .int .i64 (rngH a k)] 58)
      exact ⟨fun h => absurd h HPQ.out, fun _ => ⟨rfl, HT.out.below Y1⟩, Kept.of_below Y1⟩
  · have e3 : pprE a k = 1 := if_neg hp
    simp only [e3] at hr
    have HPQ : Hid (¬ (Pfx a k ∧ Lab l)) := fun h => hp h.1
    clear hp e3
    go_enter Try.func18, Try.ntmps18
    go_wp2_with (first
      | (go_at_call 19; refine (hr _).mono ?_; rintro e w1 ⟨rfl, x1⟩; have X1 := hide x1; clear x1)
      | (go_at_call 25; refine (hl _).mono ?_; rintro e w1 ⟨rfl, hw1⟩; subst hw1))
    go_ret
    have Y1 := al (bt (al (Below.refl _ w) (.cells #[.int .i64 a, .int .i64 k] 42)) X1.out (Nat.le_refl _)) (.cells #[.int .i64 (rngL a k), .int .i64 (rngH a k)] 58)
    exact ⟨fun h => absurd h HPQ.out, fun _ => ⟨rfl, HT.out.below Y1⟩, Kept.of_below Y1⟩
end Go.Proofs.Ytnfdjbaafiifnaa
