/-
  The reader of tokens: token, isText, isWord, isSign, refuse, take, takeText, takeWord, takeSign by their contracts; what is wrong is a panic. No condition.
-/
import Derived.Test.YtlmhofjiobmodaaGreatDoorQ04
import Derived.Test.YtlmhofjiobmodaaGreatDoorQ03
import Derived.WalkLawsBesides
namespace Go.Proofs.YtlmhofjiobmodaaGreatDoor
open Go.RowKit Go.Lib

/-- The reader in memory. -/
structure RdA (w : World) (base rp g cap : Nat) (Ts : List Tk) (i : Nat) : Prop where
  blk : w.heap[rp]? = some (.cells #[.slice (some ⟨g, 0, none⟩) Ts.length cap, .int .i64 (i : Nat)] 73 (0, 0))
  row : w.ownsRow base 49 6 (.slice (some ⟨g, 0, none⟩) Ts.length cap) Ts.length (tkC Ts)
  lt : i < Ts.length
  few : Ts.length ≤ 1048576
  endk : (tok Ts (Ts.length - 1)).k = 8
theorem RdA.below {w w' : World} {base rp g cap : Nat} {Ts : List Tk} {i : Nat} (h : RdA w base rp g cap Ts i) (x : Below w.heap.size w w') : RdA w' base rp g cap Ts i :=
  ⟨(x.block rp (lt_of_block h.blk)).trans h.blk, own_below h.row x, h.lt, h.few, h.endk⟩
theorem RdA.next {w : World} {base rp g cap : Nat} {Ts : List Tk} {i : Nat} (h : RdA w base rp g cap Ts i) (hk : (tok Ts i).k ≠ 8) : i + 1 < Ts.length := by
  have := h.lt
  rcases Nat.lt_or_ge (i + 1) Ts.length with h1 | h1
  · exact h1
  · have e : i = Ts.length - 1 := by omega
    rw [e] at hk
    exact absurd h.endk hk
theorem tkC_length (L : List Tk) : (tkC L).length = L.length * 6 := by
  induction L with
  | nil => rfl
  | cons x L ih =>
    have : tkC (x :: L) = (tkV x).toList ++ tkC L := by simp [tkC]
    rw [this, List.length_append, ih, List.length_cons]
    simp [tkV]
    omega
theorem tkC_get (L : List Tk) (i r : Nat) (hi : i < L.length) (hr : r < 6) : (tkC L)[i * 6 + r]? = (tkV (tok L i)).toList[r]? := by
  induction L generalizing i with
  | nil => simp at hi
  | cons x L ih =>
    have e : tkC (x :: L) = (tkV x).toList ++ tkC L := by simp [tkC]
    have e6 : (tkV x).toList.length = 6 := rfl
    rw [e]
    cases i with
    | zero =>
      rw [List.getElem?_append_left (by omega)]
      simp [tok]
    | succ i =>
      rw [List.getElem?_append_right (by omega), e6, show (i + 1) * 6 + r - 6 = i * 6 + r by omega, ih i (by simpa using hi)]
      rfl
theorem RdA.cells {w : World} {base rp g cap : Nat} {Ts : List Tk} {i : Nat} (h : RdA w base rp g cap Ts i) : w.cell? ⟨g, i * 6, none⟩ = some (.int .i64 (tok Ts i).k) ∧ w.cell? ⟨g, i * 6 + 1, none⟩ = some (.string ⟨(tok Ts i).t.toArray⟩) ∧ w.cell? ⟨g, i * 6 + 2, none⟩ = some (.int .i64 (tok Ts i).n) ∧ w.cell? ⟨g, i * 6 + 3, none⟩ = some (.int .i64 (tok Ts i).a) ∧ w.cell? ⟨g, i * 6 + 4, none⟩ = some (.int .i64 (tok Ts i).b) ∧ w.cell? ⟨g, i * 6 + 5, none⟩ = some (.int .i64 (tok Ts i).p) := by
  have hc : ∀ r, r < 6 → w.cell? ⟨g, i * 6 + r, none⟩ = (tkV (tok Ts i)).toList[r]? := fun r hr => by
    have := h.lt
    rw [World.ownsRow.cellAt h.row (i * 6 + r) (by omega), tkC_get Ts i r h.lt hr]
  exact ⟨hc 0 (by omega), hc 1 (by omega), hc 2 (by omega), hc 3 (by omega), hc 4 (by omega), hc 5 (by omega)⟩
theorem RdA.two {w : World} {base rp g cap : Nat} {Ts : List Tk} {i : Nat} (h : RdA w base rp g cap Ts i) : w.cell? ⟨rp, 0, none⟩ = some (.slice (some ⟨g, 0, none⟩) Ts.length cap) ∧ w.cell? ⟨rp, 1, none⟩ = some (.int .i64 (i : Nat)) :=
  ⟨by rw [cell_of_row _ _ _ _ _ _ h.blk]; rfl, by rw [cell_of_row _ _ _ _ _ _ h.blk]; rfl⟩
/-- One token further. -/
theorem RdA.step {w : World} {base rp g cap : Nat} {Ts : List Tk} {i : Nat} (h : RdA w base rp g cap Ts i) (hn : i + 1 < Ts.length) : RdA (w.setCell ⟨rp, 1, none⟩ (.int .i64 ((i : Int) + 1))) base rp g cap Ts (i + 1) := by
  refine ⟨?_, own_kept h.row (Kept.setCell (F := fun k => k = rp) (p := ⟨rp, 1, none⟩) (Kept.refl _ _) rfl _) (fun k h3 h4 => ?_), hn, h.few, h.endk⟩
  · have := block_setCell' h.blk 1 (.int .i64 ((i : Int) + 1))
    simpa using this
  · subst h4
    obtain ⟨cs, h5⟩ := own_ty h.row k h3
    rw [h.blk] at h5
    simp at h5
/-- Six cells of a block, stored. -/
theorem st6 {W : World} {P : Nat} {t : TypeId} {x0 x1 x2 x3 x4 x5 : Value} (h : W.heap[P]? = some (.cells #[x0, x1, x2, x3, x4, x5] t (0, 0))) (a b c d e f : Value) :
    (∃ u, W.cell? ⟨P, 0, none⟩ = some u) ∧ W.frozen? ⟨P, 0, none⟩ = false ∧ (∃ u, (W.setCell ⟨P, 0, none⟩ a).cell? ⟨P, 1, none⟩ = some u) ∧ (W.setCell ⟨P, 0, none⟩ a).frozen? ⟨P, 1, none⟩ = false ∧ (∃ u, ((W.setCell ⟨P, 0, none⟩ a).setCell ⟨P, 1, none⟩ b).cell? ⟨P, 2, none⟩ = some u) ∧ ((W.setCell ⟨P, 0, none⟩ a).setCell ⟨P, 1, none⟩ b).frozen? ⟨P, 2, none⟩ = false ∧ (∃ u, (((W.setCell ⟨P, 0, none⟩ a).setCell ⟨P, 1, none⟩ b).setCell ⟨P, 2, none⟩ c).cell? ⟨P, 3, none⟩ = some u) ∧ (((W.setCell ⟨P, 0, none⟩ a).setCell ⟨P, 1, none⟩ b).setCell ⟨P, 2, none⟩ c).frozen? ⟨P, 3, none⟩ = false ∧ (∃ u, ((((W.setCell ⟨P, 0, none⟩ a).setCell ⟨P, 1, none⟩ b).setCell ⟨P, 2, none⟩ c).setCell ⟨P, 3, none⟩ d).cell? ⟨P, 4, none⟩ = some u) ∧ ((((W.setCell ⟨P, 0, none⟩ a).setCell ⟨P, 1, none⟩ b).setCell ⟨P, 2, none⟩ c).setCell ⟨P, 3, none⟩ d).frozen? ⟨P, 4, none⟩ = false ∧ (∃ u, (((((W.setCell ⟨P, 0, none⟩ a).setCell ⟨P, 1, none⟩ b).setCell ⟨P, 2, none⟩ c).setCell ⟨P, 3, none⟩ d).setCell ⟨P, 4, none⟩ e).cell? ⟨P, 5, none⟩ = some u) ∧ (((((W.setCell ⟨P, 0, none⟩ a).setCell ⟨P, 1, none⟩ b).setCell ⟨P, 2, none⟩ c).setCell ⟨P, 3, none⟩ d).setCell ⟨P, 4, none⟩ e).frozen? ⟨P, 5, none⟩ = false ∧ ((((((W.setCell ⟨P, 0, none⟩ a).setCell ⟨P, 1, none⟩ b).setCell ⟨P, 2, none⟩ c).setCell ⟨P, 3, none⟩ d).setCell ⟨P, 4, none⟩ e).setCell ⟨P, 5, none⟩ f).heap[P]? = some (.cells #[a, b, c, d, e, f] t (0, 0)) ∧ Kept (fun k => k = P) W ((((((W.setCell ⟨P, 0, none⟩ a).setCell ⟨P, 1, none⟩ b).setCell ⟨P, 2, none⟩ c).setCell ⟨P, 3, none⟩ d).setCell ⟨P, 4, none⟩ e).setCell ⟨P, 5, none⟩ f) := by
  have h0 : (W.setCell ⟨P, 0, none⟩ a).heap[P]? = some (.cells #[a, x1, x2, x3, x4, x5] t (0, 0)) := by
    have := block_setCell' h 0 a
    simpa using this
  have h1 : ((W.setCell ⟨P, 0, none⟩ a).setCell ⟨P, 1, none⟩ b).heap[P]? = some (.cells #[a, b, x2, x3, x4, x5] t (0, 0)) := by
    have := block_setCell' h0 1 b
    simpa using this
  have h2 : (((W.setCell ⟨P, 0, none⟩ a).setCell ⟨P, 1, none⟩ b).setCell ⟨P, 2, none⟩ c).heap[P]? = some (.cells #[a, b, c, x3, x4, x5] t (0, 0)) := by
    have := block_setCell' h1 2 c
    simpa using this
  have h3 : ((((W.setCell ⟨P, 0, none⟩ a).setCell ⟨P, 1, none⟩ b).setCell ⟨P, 2, none⟩ c).setCell ⟨P, 3, none⟩ d).heap[P]? = some (.cells #[a, b, c, d, x4, x5] t (0, 0)) := by
    have := block_setCell' h2 3 d
    simpa using this
  have h4 : (((((W.setCell ⟨P, 0, none⟩ a).setCell ⟨P, 1, none⟩ b).setCell ⟨P, 2, none⟩ c).setCell ⟨P, 3, none⟩ d).setCell ⟨P, 4, none⟩ e).heap[P]? = some (.cells #[a, b, c, d, e, x5] t (0, 0)) := by
    have := block_setCell' h3 4 e
    simpa using this
  have h5 : ((((((W.setCell ⟨P, 0, none⟩ a).setCell ⟨P, 1, none⟩ b).setCell ⟨P, 2, none⟩ c).setCell ⟨P, 3, none⟩ d).setCell ⟨P, 4, none⟩ e).setCell ⟨P, 5, none⟩ f).heap[P]? = some (.cells #[a, b, c, d, e, f] t (0, 0)) := by
    have := block_setCell' h4 5 f
    simpa using this
  have ks : ∀ (V : World) (j : Nat) (u : Value), Kept (fun k => k = P) V (V.setCell ⟨P, j, none⟩ u) := fun V j u => Kept.setCell (F := fun k => k = P) (p := ⟨P, j, none⟩) (Kept.refl _ _) rfl u
  refine ⟨⟨_, by rw [cell_of_row _ _ _ _ _ _ h]; rfl⟩, frozen_of_row _ _ _ _ _ h, ⟨_, by rw [cell_of_row _ _ _ _ _ _ h0]; rfl⟩, frozen_of_row _ _ _ _ _ h0, ⟨_, by rw [cell_of_row _ _ _ _ _ _ h1]; rfl⟩, frozen_of_row _ _ _ _ _ h1, ⟨_, by rw [cell_of_row _ _ _ _ _ _ h2]; rfl⟩, frozen_of_row _ _ _ _ _ h2, ⟨_, by rw [cell_of_row _ _ _ _ _ _ h3]; rfl⟩, frozen_of_row _ _ _ _ _ h3, ⟨_, by rw [cell_of_row _ _ _ _ _ _ h4]; rfl⟩, frozen_of_row _ _ _ _ _ h4, h5, (((((ks _ _ _).trans (ks _ _ _)).trans (ks _ _ _)).trans (ks _ _ _)).trans (ks _ _ _)).trans (ks _ _ _)⟩
def pan (e p : Int) : Ending := .panicked [{ v := .iface 70 (.agg #[.int .i64 e, .int .i64 p]), recovered := false }]
set_option maxRecDepth 100000 in
set_option maxHeartbeats 1000000 in
theorem token_any {w : World} {base rp g cap : Nat} {Ts : List Tk} {i : Nat} (h : RdA w base rp g cap Ts i) : Calls Tryz.prog 50 #[.pointer (some ⟨rp, 0, none⟩)] w fun e w' => e = .returned (.agg (tkV (tok Ts i))) ∧ Below w.heap.size w w' := by
  have XW := hide (show Below w.heap.size w (w.alloc (.cells #[.int .i64 0, .string ⟨#[]⟩, .int .i64 0, .int .i64 0, .int .i64 0, .int .i64 0] 49)) from al (Below.refl _ _) _)
  have hlt : (i : Int) < Ts.length := by have := h.lt; omega
  have HQ : Hid (∀ V, Below (w.heap.size + 1) (w.alloc (.cells #[.int .i64 0, .string ⟨#[]⟩, .int .i64 0, .int .i64 0, .int .i64 0, .int .i64 0] 49)) V → (V.cell? ⟨rp, 0, none⟩ = some (.slice (some ⟨g, 0, none⟩) Ts.length cap) ∧ V.cell? ⟨rp, 1, none⟩ = some (.int .i64 (i : Nat))) ∧ V.cell? ⟨g, i * 6, none⟩ = some (.int .i64 (tok Ts i).k) ∧ V.cell? ⟨g, i * 6 + 1, none⟩ = some (.string ⟨(tok Ts i).t.toArray⟩) ∧ V.cell? ⟨g, i * 6 + 2, none⟩ = some (.int .i64 (tok Ts i).n) ∧ V.cell? ⟨g, i * 6 + 3, none⟩ = some (.int .i64 (tok Ts i).a) ∧ V.cell? ⟨g, i * 6 + 4, none⟩ = some (.int .i64 (tok Ts i).b) ∧ V.cell? ⟨g, i * 6 + 5, none⟩ = some (.int .i64 (tok Ts i).p)) := fun V y => by
    have h1 := (h.below XW.out).below (by simpa using y)
    exact ⟨h1.two, h1.cells⟩
  clear h
  unfold tkV
  generalize tok Ts i = z at *
  go_enter Tryz.func50, Tryz.ntmps50
  go_upto_region 1 with fail
  refine wp_unt (S := fun V => Below (w.heap.size + 1) (w.alloc (.cells #[.int .i64 0, .string ⟨#[]⟩, .int .i64 0, .int .i64 0, .int .i64 0, .int .i64 0] 49)) V) 10 (by kernel_rfl) ?_
  have HS0 : Hid (Below (w.heap.size + 1) (w.alloc (.cells #[.int .i64 0, .string ⟨#[]⟩, .int .i64 0, .int .i64 0, .int .i64 0, .int .i64 0] 49)) (w.alloc (.cells #[.int .i64 0, .string ⟨#[]⟩, .int .i64 0, .int .i64 0, .int .i64 0, .int .i64 0] 49)).drew) := (Below.refl _ _).drew
  refine UntH.take (i := 0) (some 3) rfl rfl (by kernel_rfl) (by kernel_rfl) (by kernel_rfl) (by kernel_rfl) (fun _ _ _ _ h => h) (by rfl) HS0.out ?_
  apply Exists.intro
  refine ⟨fun w' hw' => ?_, ?_⟩
  · obtain ⟨⟨q0, q1⟩, q2, q3, q4, q5, q6, q7⟩ := HQ.out w' hw'
    go_simp
    first | done | rfl
  try simp only [Act.put, List.setIfInBounds_toArray, List.set_cons_zero, List.set_cons_succ]
  refine UntH.take (i := 1) (some 4) rfl rfl (by kernel_rfl) (by kernel_rfl) (by kernel_rfl) (by kernel_rfl) (fun _ _ _ _ h => h) (by rfl) HS0.out ?_
  apply Exists.intro
  refine ⟨fun w' hw' => ?_, ?_⟩
  · obtain ⟨⟨q0, q1⟩, q2, q3, q4, q5, q6, q7⟩ := HQ.out w' hw'
    go_simp
    first | done | rfl
  try simp only [Act.put, List.setIfInBounds_toArray, List.set_cons_zero, List.set_cons_succ]
  refine UntH.take (i := 2) (some 5) rfl rfl (by kernel_rfl) (by kernel_rfl) (by kernel_rfl) (by kernel_rfl) (fun _ _ _ _ h => h) (by rfl) HS0.out ?_
  apply Exists.intro
  refine ⟨fun w' hw' => ?_, ?_⟩
  · obtain ⟨⟨q0, q1⟩, q2, q3, q4, q5, q6, q7⟩ := HQ.out w' hw'
    go_simp
    first | done | rfl
  try simp only [Act.put, List.setIfInBounds_toArray, List.set_cons_zero, List.set_cons_succ]
  refine UntH.take (i := 3) (some 6) rfl rfl (by kernel_rfl) (by kernel_rfl) (by kernel_rfl) (by kernel_rfl) (fun _ _ _ _ h => h) (by rfl) HS0.out ?_
  apply Exists.intro
  refine ⟨fun w' hw' => ?_, ?_⟩
  · obtain ⟨⟨q0, q1⟩, q2, q3, q4, q5, q6, q7⟩ := HQ.out w' hw'
    go_simp
    first | done | rfl
  try simp only [Act.put, List.setIfInBounds_toArray, List.set_cons_zero, List.set_cons_succ]
  refine UntH.take (i := 4) (some 7) rfl rfl (by kernel_rfl) (by kernel_rfl) (by kernel_rfl) (by kernel_rfl) (fun _ _ _ _ h => h) (by rfl) HS0.out ?_
  apply Exists.intro
  refine ⟨fun w' hw' => ?_, ?_⟩
  · obtain ⟨⟨q0, q1⟩, q2, q3, q4, q5, q6, q7⟩ := HQ.out w' hw'
    go_simp
    first | done | rfl
  try simp only [Act.put, List.setIfInBounds_toArray, List.set_cons_zero, List.set_cons_succ]
  refine UntH.take (i := 5) (some 8) rfl rfl (by kernel_rfl) (by kernel_rfl) (by kernel_rfl) (by kernel_rfl) (fun _ _ _ _ h => h) (by rfl) HS0.out ?_
  apply Exists.intro
  refine ⟨fun w' hw' => ?_, ?_⟩
  · obtain ⟨⟨q0, q1⟩, q2, q3, q4, q5, q6, q7⟩ := HQ.out w' hw'
    go_simp
    first | done | rfl
  try simp only [Act.put, List.setIfInBounds_toArray, List.set_cons_zero, List.set_cons_succ]
  refine UntH.take (i := 6) (some 9) rfl rfl (by kernel_rfl) (by kernel_rfl) (by kernel_rfl) (by kernel_rfl) (fun _ _ _ _ h => h) (by rfl) HS0.out ?_
  apply Exists.intro
  refine ⟨fun w' hw' => ?_, ?_⟩
  · obtain ⟨⟨q0, q1⟩, q2, q3, q4, q5, q6, q7⟩ := HQ.out w' hw'
    go_simp
    first | done | rfl
  try simp only [Act.put, List.setIfInBounds_toArray, List.set_cons_zero, List.set_cons_succ]
  refine UntH.take (i := 7) (some 10) rfl rfl (by kernel_rfl) (by kernel_rfl) (by kernel_rfl) (by kernel_rfl) (fun _ _ _ _ h => h) (by rfl) HS0.out ?_
  apply Exists.intro
  refine ⟨fun w' hw' => ?_, ?_⟩
  · obtain ⟨⟨q0, q1⟩, q2, q3, q4, q5, q6, q7⟩ := HQ.out w' hw'
    go_simp
    first | done | rfl
  try simp only [Act.put, List.setIfInBounds_toArray, List.set_cons_zero, List.set_cons_succ]
  refine UntH.take (i := 8) (some 11) rfl rfl (by kernel_rfl) (by kernel_rfl) (by kernel_rfl) (by kernel_rfl) (fun _ _ _ _ h => h) (by rfl) HS0.out ?_
  apply Exists.intro
  refine ⟨fun w' hw' => ?_, ?_⟩
  · obtain ⟨⟨q0, q1⟩, q2, q3, q4, q5, q6, q7⟩ := HQ.out w' hw'
    go_simp
    first | done | rfl
  try simp only [Act.put, List.setIfInBounds_toArray, List.set_cons_zero, List.set_cons_succ]
  refine UntH.take (i := 9) (some 12) rfl rfl (by kernel_rfl) (by kernel_rfl) (by kernel_rfl) (by kernel_rfl) (fun _ _ _ _ h => h) (by rfl) HS0.out ?_
  apply Exists.intro
  refine ⟨fun w' hw' => ?_, ?_⟩
  · obtain ⟨⟨q0, q1⟩, q2, q3, q4, q5, q6, q7⟩ := HQ.out w' hw'
    go_simp
    first | done | rfl
  try simp only [Act.put, List.setIfInBounds_toArray, List.set_cons_zero, List.set_cons_succ]
  refine UntH.last (by kernel_rfl) rfl (by kernel_rfl) (by kernel_rfl) (fun K hK => ?_)
  go_simp
  refine hK _ _ ?_
  clear hK K
  go_wp2
  refine bodyPost_ret (by simp [results, Tryz.results50, go_sem]; try rfl) rfl ?_
  exact ⟨rfl, (al (Below.refl _ _) _).drew⟩
theorem bs_eq (a b : By) : ((⟨a.toArray⟩ : ByteArray) == ⟨b.toArray⟩) = (a == b) := by
  show (a.toArray == b.toArray) = (a == b)
  simp
set_option maxRecDepth 100000 in
set_option maxHeartbeats 1000000 in
theorem isTx_any {w : World} {base rp g cap : Nat} {Ts : List Tk} {i : Nat} (h : RdA w base rp g cap Ts i) (kind : Int) (text : By) : Calls Tryz.prog 114 #[.pointer (some ⟨rp, 0, none⟩), .int .i64 kind, .string ⟨text.toArray⟩] w fun e w' => e = .returned (.bool (isT Ts kind text i)) ∧ Below w.heap.size w w' := by
  have HT := hide (token_any h)
  have HIS : Hid (isT Ts kind text i = ((tok Ts i).k == kind && (tok Ts i).t == text)) := rfl
  unfold tkV at HT
  generalize tok Ts i = z at *
  cases hk : (z.k == kind) with
  | false =>
    have hk2 : ¬ z.k = kind := by simpa using hk
    go_enter Tryz.func114, Tryz.ntmps114
    go_wp2_with (go_at_call 50; refine HT.out.mono ?_; rintro e w1 ⟨rfl, x1⟩; have X1 := hide x1; clear x1)
    go_ret
    exact ⟨by rw [HIS.out, hk]; rfl, al X1.out _⟩
  | true =>
    have hk2 : z.k = kind := by simpa using hk
    go_enter Tryz.func114, Tryz.ntmps114
    go_wp2_with (go_at_call 50; refine HT.out.mono ?_; rintro e w1 ⟨rfl, x1⟩; have X1 := hide x1; clear x1)
    go_ret
    exact ⟨by rw [HIS.out, hk]; simp, al X1.out _⟩
theorem fld0 (x0 x1 x2 x3 x4 x5 : Value) (w : World) : (Instr.field 49 (.agg #[x0, x1, x2, x3, x4, x5]) 0).run Tryz.prog w = .ok x0 w := by kernel_rfl
theorem fld1 (x0 x1 x2 x3 x4 x5 : Value) (w : World) : (Instr.field 49 (.agg #[x0, x1, x2, x3, x4, x5]) 1).run Tryz.prog w = .ok x1 w := by kernel_rfl
theorem fld2 (x0 x1 x2 x3 x4 x5 : Value) (w : World) : (Instr.field 49 (.agg #[x0, x1, x2, x3, x4, x5]) 2).run Tryz.prog w = .ok x2 w := by kernel_rfl
theorem fld3 (x0 x1 x2 x3 x4 x5 : Value) (w : World) : (Instr.field 49 (.agg #[x0, x1, x2, x3, x4, x5]) 3).run Tryz.prog w = .ok (.agg #[x3, x4]) w := by kernel_rfl
theorem fld4 (x0 x1 x2 x3 x4 x5 : Value) (w : World) : (Instr.field 49 (.agg #[x0, x1, x2, x3, x4, x5]) 4).run Tryz.prog w = .ok x5 w := by kernel_rfl
set_option maxRecDepth 100000 in
theorem isWord_any' {w : World} {base rp g cap : Nat} {Ts : List Tk} {i : Nat} (h : RdA w base rp g cap Ts i) (text : By) : Calls Tryz.prog 72 #[.pointer (some ⟨rp, 0, none⟩), .string ⟨text.toArray⟩] w fun e w' => e = .returned (.bool (isT Ts 1 text i)) ∧ Below w.heap.size w w' := by
  have HT := hide (isTx_any h 1 text)
  go_enter Tryz.func72, Tryz.ntmps72
  go_wp2_with (go_at_call 114; refine HT.out.mono ?_; rintro e w1 ⟨rfl, x1⟩; have X1 := hide x1; clear x1)
  go_ret
  exact ⟨rfl, X1.out⟩
set_option maxRecDepth 100000 in
theorem isSgn_any {w : World} {base rp g cap : Nat} {Ts : List Tk} {i : Nat} (h : RdA w base rp g cap Ts i) (text : By) : Calls Tryz.prog 143 #[.pointer (some ⟨rp, 0, none⟩), .string ⟨text.toArray⟩] w fun e w' => e = .returned (.bool (isT Ts 7 text i)) ∧ Below w.heap.size w w' := by
  have HT := hide (isTx_any h 7 text)
  go_enter Tryz.func143, Tryz.ntmps143
  go_wp2_with (go_at_call 114; refine HT.out.mono ?_; rintro e w1 ⟨rfl, x1⟩; have X1 := hide x1; clear x1)
  go_ret
  exact ⟨rfl, X1.out⟩
set_option maxRecDepth 100000 in
theorem refuse_any {w : World} {base rp g cap : Nat} {Ts : List Tk} {i : Nat} (h : RdA w base rp g cap Ts i) (c : Int) : Calls Tryz.prog 52 #[.pointer (some ⟨rp, 0, none⟩), .int .i64 c] w fun e w' => e = pan c (tok Ts i).p ∧ Below w.heap.size w w' := by
  have HT := hide (token_any h)
  unfold tkV at HT
  generalize tok Ts i = z at *
  have hf := fld4
  go_enter Tryz.func52, Tryz.ntmps52
  go_wp2_with (go_at_call 50; refine HT.out.mono ?_; rintro e w1 ⟨rfl, x1⟩; have X1 := hide x1; clear x1)
  exact ⟨rfl, rfl, X1.out⟩
set_option maxRecDepth 100000 in
set_option maxHeartbeats 1000000 in
theorem takeR_ok {w : World} {base rp g cap : Nat} {Ts : List Tk} {i : Nat} (h : RdA w base rp g cap Ts i) {kind : Int} (hk : (tok Ts i).k = kind) (h8 : kind ≠ 8) : Calls Tryz.prog 74 #[.pointer (some ⟨rp, 0, none⟩), .int .i64 kind] w fun e w' => e = .returned (.agg (tkV (tok Ts i))) ∧ RdA w' base rp g cap Ts (i + 1) ∧ Kept (fun k => k = rp) w w' := by
  have hn : i + 1 < Ts.length := h.next (by rw [hk]; exact h8)
  have X0 := hide (show Below w.heap.size w (w.alloc (.cells #[.int .i64 0, .string ⟨#[]⟩, .int .i64 0, .int .i64 0, .int .i64 0, .int .i64 0] 49)) from al (Below.refl _ _) _)
  have R0 := hide (h.below X0.out)
  have HT := hide (token_any R0.out)
  have HL := hide h.few
  have HN := hide hn
  have HGL : Hid (g < w.heap.size) := (World.ownsRow.lt h.row g rfl).2
  unfold tkV at HT ⊢
  generalize tok Ts i = z at *
  clear h hn
  have fw : IntKind.i64.wrap ((i : Int) + 1) = (i : Int) + 1 := by have := HL.out; have := HN.out; simp [IntKind.wrap, IntKind.bits, IntKind.signed]; omega
  have hkk : (z.k == kind) = true := by simpa using hk
  go_enter Tryz.func74, Tryz.ntmps74
  go_upto_region 4 with (go_at_call 50; refine HT.out.mono ?_; rintro e w1 ⟨rfl, x1⟩; have X1 := hide x1; clear x1)
  rw [← hk]
  have Y1 : Hid (Below w1.heap.size w1 (w1.alloc (.cells #[.int .i64 z.k, .string ⟨z.t.toArray⟩, .int .i64 z.n, .int .i64 z.a, .int .i64 z.b, .int .i64 z.p] 49))) := al (Below.refl _ _) _
  have R1 := hide ((R0.out.below X1.out).below Y1.out)
  have P1 := hide (heap_alloc_new w1 (.cells #[.int .i64 z.k, .string ⟨z.t.toArray⟩, .int .i64 z.n, .int .i64 z.a, .int .i64 z.b, .int .i64 z.p] 49))
  have P0 := hide ((Y1.out.block w.heap.size (lt_of_block ((X1.out.block w.heap.size (lt_of_block (heap_alloc_new w (.cells #[.int .i64 0, .string ⟨#[]⟩, .int .i64 0, .int .i64 0, .int .i64 0, .int .i64 0] 49)))).trans (heap_alloc_new w (.cells #[.int .i64 0, .string ⟨#[]⟩, .int .i64 0, .int .i64 0, .int .i64 0, .int .i64 0] 49))))).trans ((X1.out.block w.heap.size (lt_of_block (heap_alloc_new w (.cells #[.int .i64 0, .string ⟨#[]⟩, .int .i64 0, .int .i64 0, .int .i64 0, .int .i64 0] 49)))).trans (heap_alloc_new w (.cells #[.int .i64 0, .string ⟨#[]⟩, .int .i64 0, .int .i64 0, .int .i64 0, .int .i64 0] 49))))
  have K1 : Hid (Kept (fun k => k = rp) w (w1.alloc (.cells #[.int .i64 z.k, .string ⟨z.t.toArray⟩, .int .i64 z.n, .int .i64 z.a, .int .i64 z.b, .int .i64 z.p] 49))) := Kept.of_below (bt (bt X0.out X1.out (Nat.le_refl _)) Y1.out (Nat.le_refl _))
  have hw1 : w.heap.size < w1.heap.size := by have := X1.out.size; simp at this; omega
  obtain ⟨q1, hq1⟩ : ∃ q, q = w1.heap.size := ⟨_, rfl⟩
  rw [← hq1] at P1 hw1
  rw [← hq1]
  clear hq1 X1 Y1 HT X0 R0
  generalize w1.alloc (.cells #[.int .i64 z.k, .string ⟨z.t.toArray⟩, .int .i64 z.n, .int .i64 z.a, .int .i64 z.b, .int .i64 z.p] 49) = w2 at *
  obtain ⟨_, c1⟩ := R1.out.two
  have f1 := frozen_of_row w2 rp 1 _ _ R1.out.blk
  have n0 : ¬ w.heap.size = rp := fun e => by have h1 := P0.out; rw [e, R1.out.blk] at h1; simp at h1
  have n1 : ¬ q1 = rp := fun e => by have h1 := P1.out; rw [e, R1.out.blk] at h1; simp at h1
  go_upto_region 5 with fail
  clear c1 f1
  have R3 := hide (R1.out.step HN.out)
  have KS : Hid (Kept (fun k => k = rp) w2 (w2.setCell ⟨rp, 1, none⟩ (.int .i64 ((i : Int) + 1)))) := Kept.setCell (F := fun k => k = rp) (p := ⟨rp, 1, none⟩) (Kept.refl _ _) rfl _
  have P03 := hide ((KS.out.block w.heap.size (lt_of_block P0.out) n0).trans P0.out)
  have P13 := hide ((KS.out.block q1 (lt_of_block P1.out) n1).trans P1.out)
  have K3 := hide (K1.out.trans KS.out)
  clear R1 P0 P1 K1 KS
  generalize w2.setCell ⟨rp, 1, none⟩ (.int .i64 ((i : Int) + 1)) = w3 at *
  obtain ⟨⟨u0, e0⟩, f0, ⟨u1, e1⟩, f1, ⟨u2, e2⟩, f2, ⟨u3, e3⟩, f3, ⟨u4, e4⟩, f4, ⟨u5, e5⟩, f5, b9, k9⟩ := st6 P03.out (.int .i64 z.k) (.string ⟨z.t.toArray⟩) (.int .i64 z.n) (.int .i64 z.a) (.int .i64 z.b) (.int .i64 z.p)
  have B9 := hide b9
  have K9 := hide k9
  clear b9 k9
  have g0 : w3.cell? ⟨q1, 0, none⟩ = some (.int .i64 z.k) := by rw [cell_of_row _ _ _ _ _ _ P13.out]; rfl
  have g1 : w3.cell? ⟨q1, 1, none⟩ = some (.string ⟨z.t.toArray⟩) := by rw [cell_of_row _ _ _ _ _ _ P13.out]; rfl
  have g2 : w3.cell? ⟨q1, 2, none⟩ = some (.int .i64 z.n) := by rw [cell_of_row _ _ _ _ _ _ P13.out]; rfl
  have g3 : w3.cell? ⟨q1, 3, none⟩ = some (.int .i64 z.a) := by rw [cell_of_row _ _ _ _ _ _ P13.out]; rfl
  have g4 : w3.cell? ⟨q1, 4, none⟩ = some (.int .i64 z.b) := by rw [cell_of_row _ _ _ _ _ _ P13.out]; rfl
  have g5 : w3.cell? ⟨q1, 5, none⟩ = some (.int .i64 z.p) := by rw [cell_of_row _ _ _ _ _ _ P13.out]; rfl
  have KN : Hid (Kept (fun k => k = rp) w w3) := K3.out
  have HW0 : Hid (w.heap.size ≤ w.heap.size) := Nat.le_refl _
  clear hk hkk
  go_wp2
  clear e0 f0 e1 f1 e2 f2 e3 f3 e4 f4 e5 f5 g0 g1 g2 g3 g4 g5
  generalize ((((((w3.setCell ⟨w.heap.size, 0, none⟩ (.int .i64 z.k)).setCell ⟨w.heap.size, 1, none⟩ (.string ⟨z.t.toArray⟩)).setCell ⟨w.heap.size, 2, none⟩ (.int .i64 z.n)).setCell ⟨w.heap.size, 3, none⟩ (.int .i64 z.a)).setCell ⟨w.heap.size, 4, none⟩ (.int .i64 z.b)).setCell ⟨w.heap.size, 5, none⟩ (.int .i64 z.p)) = w9 at *
  have r0 : w9.cell? ⟨w.heap.size, 0, none⟩ = some (.int .i64 z.k) := by rw [cell_of_row _ _ _ _ _ _ B9.out]; rfl
  have r1 : w9.cell? ⟨w.heap.size, 1, none⟩ = some (.string ⟨z.t.toArray⟩) := by rw [cell_of_row _ _ _ _ _ _ B9.out]; rfl
  have r2 : w9.cell? ⟨w.heap.size, 2, none⟩ = some (.int .i64 z.n) := by rw [cell_of_row _ _ _ _ _ _ B9.out]; rfl
  have r3 : w9.cell? ⟨w.heap.size, 3, none⟩ = some (.int .i64 z.a) := by rw [cell_of_row _ _ _ _ _ _ B9.out]; rfl
  have r4 : w9.cell? ⟨w.heap.size, 4, none⟩ = some (.int .i64 z.b) := by rw [cell_of_row _ _ _ _ _ _ B9.out]; rfl
  have r5 : w9.cell? ⟨w.heap.size, 5, none⟩ = some (.int .i64 z.p) := by rw [cell_of_row _ _ _ _ _ _ B9.out]; rfl
  refine bodyPost_ret (by simp [results, Tryz.results74, go_sem, r0, r1, r2, r3, r4, r5]; try rfl) rfl ?_
  refine ⟨rfl, ⟨(K9.out.block rp (lt_of_block R3.out.blk) (fun e => n0 e.symm)).trans R3.out.blk, own_kept R3.out.row K9.out (fun k h3 h4 => ?_), R3.out.lt, R3.out.few, R3.out.endk⟩, Kept.trans_new KN.out K9.out (fun k h1 h2 => absurd h1 (by omega))⟩
  cases h3
  exact absurd h4 (Nat.ne_of_lt HGL.out)
set_option maxRecDepth 100000 in
set_option maxHeartbeats 1000000 in
theorem takeR_bad {w : World} {base rp g cap : Nat} {Ts : List Tk} {i : Nat} (h : RdA w base rp g cap Ts i) {kind : Int} (hk : ¬ (tok Ts i).k = kind) : Calls Tryz.prog 74 #[.pointer (some ⟨rp, 0, none⟩), .int .i64 kind] w fun e w' => e = pan 90 (tok Ts i).p ∧ Below w.heap.size w w' := by
  have X0 := hide (show Below w.heap.size w (w.alloc (.cells #[.int .i64 0, .string ⟨#[]⟩, .int .i64 0, .int .i64 0, .int .i64 0, .int .i64 0] 49)) from al (Below.refl _ _) _)
  have R0 := hide (h.below X0.out)
  have HT := hide (token_any R0.out)
  have HRF := hide (fun V (x : Below w.heap.size w V) => refuse_any (h.below x) 90)
  unfold tkV at HT
  generalize tok Ts i = z at *
  clear h
  have hkk : (z.k == kind) = false := by simpa using hk
  go_enter Tryz.func74, Tryz.ntmps74
  go_upto_region 3 with (go_at_call 50; refine HT.out.mono ?_; rintro e w1 ⟨rfl, x1⟩; have X1 := hide x1; clear x1)
  have X2 := hide (al (bt X0.out X1.out (Nat.le_refl _)) (.cells #[.int .i64 z.k, .string ⟨z.t.toArray⟩, .int .i64 z.n, .int .i64 z.a, .int .i64 z.b, .int .i64 z.p] 49))
  go_wp2_with (go_at_call 52; refine (HRF.out _ X2.out).mono ?_; rintro e w3 ⟨he, x3⟩; unfold pan at he; subst he; have X3 := hide (bt X2.out x3 (Nat.le_refl _)); clear x3)
  exact ⟨rfl, rfl, X3.out⟩
set_option maxRecDepth 100000 in
set_option maxHeartbeats 1000000 in
theorem takeX_ok {w : World} {base rp g cap : Nat} {Ts : List Tk} {i : Nat} (h : RdA w base rp g cap Ts i) {kind : Int} {text : By} (ht : isT Ts kind text i = true) (h8 : kind ≠ 8) : Calls Tryz.prog 115 #[.pointer (some ⟨rp, 0, none⟩), .int .i64 kind, .string ⟨text.toArray⟩] w fun e w' => e = .returned (.tuple #[]) ∧ RdA w' base rp g cap Ts (i + 1) ∧ Kept (fun k => k = rp) w w' := by
  have hk : (tok Ts i).k = kind := by
    unfold isT at ht
    simp only [Bool.and_eq_true, beq_iff_eq] at ht
    exact ht.1
  have hn : i + 1 < Ts.length := h.next (by rw [hk]; exact h8)
  have HT := hide (isTx_any h kind text)
  rw [ht] at HT
  have HL := hide h.few
  have HN := hide hn
  have HR := hide h
  clear h hn hk ht
  have fw : IntKind.i64.wrap ((i : Int) + 1) = (i : Int) + 1 := by have := HL.out; have := HN.out; simp [IntKind.wrap, IntKind.bits, IntKind.signed]; omega
  go_enter Tryz.func115, Tryz.ntmps115
  go_upto_region 2 with (go_at_call 114; refine HT.out.mono ?_; rintro e w1 ⟨rfl, x1⟩; have X1 := hide x1; clear x1)
  have R1 := hide (HR.out.below X1.out)
  obtain ⟨_, c1⟩ := R1.out.two
  have f1 := frozen_of_row w1 rp 1 _ _ R1.out.blk
  go_wp2
  go_end0
  exact ⟨rfl, R1.out.step HN.out, (Kept.of_below X1.out).trans (Kept.setCell (F := fun k => k = rp) (p := ⟨rp, 1, none⟩) (Kept.refl _ _) rfl _)⟩
set_option maxRecDepth 100000 in
set_option maxHeartbeats 1000000 in
theorem takeX_bad {w : World} {base rp g cap : Nat} {Ts : List Tk} {i : Nat} (h : RdA w base rp g cap Ts i) {kind : Int} {text : By} (ht : ¬ isT Ts kind text i = true) : Calls Tryz.prog 115 #[.pointer (some ⟨rp, 0, none⟩), .int .i64 kind, .string ⟨text.toArray⟩] w fun e w' => e = pan 90 (tok Ts i).p ∧ Below w.heap.size w w' := by
  have HT := hide (isTx_any h kind text)
  rw [show isT Ts kind text i = false by simpa using ht] at HT
  have HRF := hide (fun V (x : Below w.heap.size w V) => refuse_any (h.below x) 90)
  clear h ht
  go_enter Tryz.func115, Tryz.ntmps115
  go_wp2_with (first
    | (go_at_call 114; refine HT.out.mono ?_; rintro e w1 ⟨rfl, x1⟩; have X1 := hide x1; clear x1)
    | (go_at_call 52; refine (HRF.out _ X1.out).mono ?_; rintro e w3 ⟨he, x3⟩; unfold pan at he; subst he; have X3 := hide (bt X1.out x3 (Nat.le_refl _)); clear x3))
  exact ⟨rfl, rfl, X3.out⟩
set_option maxRecDepth 100000 in
theorem takeS_ok {w : World} {base rp g cap : Nat} {Ts : List Tk} {i : Nat} (h : RdA w base rp g cap Ts i) {text : By} (ht : isT Ts 7 text i = true) : Calls Tryz.prog 75 #[.pointer (some ⟨rp, 0, none⟩), .string ⟨text.toArray⟩] w fun e w' => e = .returned (.tuple #[]) ∧ RdA w' base rp g cap Ts (i + 1) ∧ Kept (fun k => k = rp) w w' := by
  have HT := hide (takeX_ok h ht (by decide))
  go_enter Tryz.func75, Tryz.ntmps75
  go_wp2_with (go_at_call 115; refine HT.out.mono ?_; rintro e w1 ⟨rfl, r1, k1⟩; have R1 := hide r1; have K1 := hide k1; clear r1 k1)
  go_end0
  exact ⟨rfl, R1.out, K1.out⟩
set_option maxRecDepth 100000 in
theorem takeS_bad {w : World} {base rp g cap : Nat} {Ts : List Tk} {i : Nat} (h : RdA w base rp g cap Ts i) {text : By} (ht : ¬ isT Ts 7 text i = true) : Calls Tryz.prog 75 #[.pointer (some ⟨rp, 0, none⟩), .string ⟨text.toArray⟩] w fun e w' => e = pan 90 (tok Ts i).p ∧ Below w.heap.size w w' := by
  have HT := hide (takeX_bad h (kind := 7) ht)
  go_enter Tryz.func75, Tryz.ntmps75
  go_wp2_with (go_at_call 115; refine HT.out.mono ?_; rintro e w1 ⟨he, x1⟩; unfold pan at he; subst he; have X1 := hide x1; clear x1)
  exact ⟨rfl, rfl, X1.out⟩
set_option maxRecDepth 100000 in
theorem takeW_ok {w : World} {base rp g cap : Nat} {Ts : List Tk} {i : Nat} (h : RdA w base rp g cap Ts i) {text : By} (ht : isT Ts 1 text i = true) : Calls Tryz.prog 76 #[.pointer (some ⟨rp, 0, none⟩), .string ⟨text.toArray⟩] w fun e w' => e = .returned (.tuple #[]) ∧ RdA w' base rp g cap Ts (i + 1) ∧ Kept (fun k => k = rp) w w' := by
  have HT := hide (takeX_ok h ht (by decide))
  go_enter Tryz.func76, Tryz.ntmps76
  go_wp2_with (go_at_call 115; refine HT.out.mono ?_; rintro e w1 ⟨rfl, r1, k1⟩; have R1 := hide r1; have K1 := hide k1; clear r1 k1)
  go_end0
  exact ⟨rfl, R1.out, K1.out⟩
set_option maxRecDepth 100000 in
theorem takeW_bad {w : World} {base rp g cap : Nat} {Ts : List Tk} {i : Nat} (h : RdA w base rp g cap Ts i) {text : By} (ht : ¬ isT Ts 1 text i = true) : Calls Tryz.prog 76 #[.pointer (some ⟨rp, 0, none⟩), .string ⟨text.toArray⟩] w fun e w' => e = pan 90 (tok Ts i).p ∧ Below w.heap.size w w' := by
  have HT := hide (takeX_bad h (kind := 1) ht)
  go_enter Tryz.func76, Tryz.ntmps76
  go_wp2_with (go_at_call 115; refine HT.out.mono ?_; rintro e w1 ⟨he, x1⟩; unfold pan at he; subst he; have X1 := hide x1; clear x1)
  exact ⟨rfl, rfl, X1.out⟩
end Go.Proofs.YtlmhofjiobmodaaGreatDoor
