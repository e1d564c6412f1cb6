/-
  endsOf, merged and endsOfAll by their contracts: a closure that gives all ends of the sets, rising. Conditions: the lists are sets, of at most 2^32 spans each, and fewer than 2^31 lists.
-/
import Derived.Test.YtljagefcgijmlaaGive2
namespace Go.Proofs.Ytljagefcgijmlaa
open Go.RowKit Go.Lib

/-- Lists of spans that begin at ao, all below block lo. -/
def SsAt (lo : Nat) (w : World) (ao : Option Addr) (S : List (List Spn)) : Prop :=
  S = [] ∨ ∃ b off, ao = some ⟨b, off, none⟩ ∧ b < lo ∧ ∀ i, i < S.length → ∃ ai ci, w.cell? ⟨b, off + i, none⟩ = some (.slice ai (S.getD i []).length ci) ∧ SpAt w ai (S.getD i []) ∧ (∀ x, ai = some x → x.block < lo)
theorem SsAt.below {lo : Nat} {w w' : World} {ao : Option Addr} {S : List (List Spn)} (h : SsAt lo w ao S) (hb : Below lo w w') : SsAt lo w' ao S := by
  rcases h with rfl | ⟨b, off, e, hlt, h⟩
  · exact .inl rfl
  · refine .inr ⟨b, off, e, hlt, fun i hi => ?_⟩
    obtain ⟨ai, ci, h1, h2, h3⟩ := h i hi
    refine ⟨ai, ci, (hb.cell (p := ⟨b, _, none⟩) hlt).trans h1, ?_, h3⟩
    rcases h2 with h2 | ⟨b', off', e', hlt', h'⟩
    · exact .inl h2
    · have hl3 := h3 _ e'
      exact .inr ⟨b', off', e', Nat.lt_of_lt_of_le hlt' hb.size, fun j hj => (h' j hj).below hb hl3⟩
theorem SsAt.take {lo : Nat} {w : World} {b off : Nat} {S : List (List Spn)} (h : SsAt lo w (some ⟨b, off, none⟩) S) (k : Nat) : SsAt lo w (some ⟨b, off, none⟩) (S.take k) := by
  rcases h with rfl | ⟨b', off', e, hlt, h⟩
  · exact .inl (by simp)
  · cases e
    refine .inr ⟨b, off, rfl, hlt, fun i hi => ?_⟩
    rw [List.length_take] at hi
    obtain ⟨ai, ci, h1, h2, h3⟩ := h i (by omega)
    have e1 : (S.take k).getD i [] = S.getD i [] := by simp [List.getD_eq_getElem?_getD, show i < k by omega]
    exact ⟨ai, ci, by rw [e1]; exact h1, by rw [e1]; exact h2, h3⟩
theorem SsAt.drop {lo : Nat} {w : World} {b off : Nat} {S : List (List Spn)} (h : SsAt lo w (some ⟨b, off, none⟩) S) (k : Nat) : SsAt lo w (some ⟨b, off + k, none⟩) (S.drop k) := by
  rcases h with rfl | ⟨b', off', e, hlt, h⟩
  · exact .inl (by simp)
  · cases e
    refine .inr ⟨b, off + k, rfl, hlt, fun i hi => ?_⟩
    rw [List.length_drop] at hi
    obtain ⟨ai, ci, h1, h2, h3⟩ := h (k + i) (by omega)
    have e1 : (S.drop k).getD i [] = S.getD (k + i) [] := by simp [List.getD_eq_getElem?_getD, List.getElem?_drop]
    rw [← Nat.add_assoc] at h1
    exact ⟨ai, ci, by rw [e1]; exact h1, by rw [e1]; exact h2, h3⟩

/-- A closure that came out: its cells are new. -/
structure NewG (lo : Nat) (w w' : World) (t : GT) (es : List End) : Prop where
  at' : t.At lo w' es
  nodup : t.blocks.Nodup
  new : ∀ k ∈ t.blocks, w.heap.size ≤ k ∧ k < w'.heap.size
  below : Below w.heap.size w w'
def OutG (lo : Nat) (w : World) (es : List End) (e : Ending) (w' : World) : Prop := ∃ t : GT, e = .returned t.val ∧ NewG lo w w' t es

theorem endsOf_any (lo : Nat) (ao : Option Addr) (cap : Nat) (L : List Spn) (set : Nat) (w : World) (hat : SpAt w ao L) (hlow : ∀ x, ao = some x → x.block < lo) (hl : L.length ≤ 4294967296) (hb : ∀ s ∈ L, Bnd s) :
    Calls Try.prog 77 #[.slice ao L.length cap, .int .i64 set] w fun e w' => OutG lo w (endsL L set) e w' := by
  have hmf : ∀ (fn : Fn) (first cap : Array Value) (w : World), (Instr.makeFunc fn first cap).run Try.prog w = .ok (.func fn first cap) w := fun _ _ _ _ => rfl
  have HAT := hide hat
  clear hat
  go_enter Try.func77, Try.ntmps77
  go_wp2
  go_ret
  generalize hW : ((w.alloc (.cells #[.slice ao L.length cap] 22)).alloc (.cells #[.int .i64 set] 3)).alloc (.cells #[.int .i64 0] 3) = W
  have hbl : Below w.heap.size w W := by rw [← hW]; exact (((Below.refl _ _).alloc (Nat.le_refl _) _).alloc (by simp) _).alloc (by simp; omega) _
  have hs : W.heap.size = w.heap.size + 3 := by rw [← hW]; simp
  refine ⟨.leaf (w.heap.size + 2) w.heap.size (w.heap.size + 1), rfl, ⟨⟨L, ao, cap, 0, set, ?_, ?_, ?_, HAT.out.below hbl, hlow, Nat.zero_le _, hl, hb, by simp⟩, ?_, ?_, hbl⟩⟩
  · rw [← hW]
    have := heap_alloc_new ((w.alloc (.cells #[.slice ao L.length cap] 22)).alloc (.cells #[.int .i64 set] 3)) (.cells #[.int .i64 0] 3)
    simpa using this
  · rw [← hW, Below.heap_alloc _ _ _ (by simp; omega), Below.heap_alloc _ _ _ (by simp)]
    exact heap_alloc_new w _
  · rw [← hW, Below.heap_alloc _ _ _ (by simp)]
    have := heap_alloc_new (w.alloc (.cells #[.slice ao L.length cap] 22)) (.cells #[.int .i64 set] 3)
    simpa using this
  · simp [GT.blocks]
  · intro k hk
    simp only [GT.blocks, List.mem_cons, List.not_mem_nil, or_false] at hk
    omega

set_option maxRecDepth 100000 in
set_option maxHeartbeats 2000000 in
theorem merged_any (lo : Nat) (l r : GT) (w : World) (A B : List End) (hl : l.At lo w A) (hr : r.At lo w B) (dl : l.blocks.Nodup) (dr : r.blocks.Nodup) (hd : ∀ k ∈ l.blocks, k ∉ r.blocks) (hlo : ∀ k, k ∈ l.blocks ∨ k ∈ r.blocks → lo ≤ k) :
    Calls Try.prog 78 #[l.val, r.val] w fun e w' => ∃ t : GT, e = .returned t.val ∧ t.At lo w' (A.merge B leE) ∧ t.blocks.Nodup ∧ (∀ k ∈ t.blocks, k ∈ l.blocks ∨ k ∈ r.blocks ∨ w.heap.size ≤ k) ∧ Kept (fun k => k ∈ l.blocks ∨ k ∈ r.blocks) w w' := by
  have hmf : ∀ (fn : Fn) (first cap : Array Value) (w : World), (Instr.makeFunc fn first cap).run Try.prog w = .ok (.func fn first cap) w := fun _ _ _ _ => rfl
  have egl := l.enters
  have egr := r.enters
  have hnl := hl.lt
  have hnr := hr.lt
  have hw0 : Below w.heap.size w ((w.alloc (.cells #[l.val] 78)).alloc (.cells #[r.val] 78)) := ((Below.refl _ _).alloc (Nat.le_refl _) _).alloc (by simp) _
  generalize hW : (w.alloc (.cells #[l.val] 78)).alloc (.cells #[r.val] 78) = W at hw0
  have s0 : W.heap.size = w.heap.size + 2 := by rw [← hW]; simp
  have n0 : W.heap[w.heap.size]? = some (.cells #[l.val] 78 (0, 0)) := by rw [← hW, Below.heap_alloc _ _ _ (by simp)]; exact heap_alloc_new w _
  have n1 : W.heap[w.heap.size + 1]? = some (.cells #[r.val] 78 (0, 0)) := by
    rw [← hW]
    have := heap_alloc_new (w.alloc (.cells #[l.val] 78)) (.cells #[r.val] 78)
    simpa using this
  have hcl := gives_all lo l W A (GT.At.kept (F := fun _ => False) (Kept.of_below hw0) (fun _ _ h => h) hl (fun _ _ h => h)) dl (fun k hk => hlo k (.inl hk))
  have HWE := hide hW
  clear hW
  unfold GT.val at HWE n0 n1 ⊢
  go_enter Try.func78, Try.ntmps78
  go_wp2_with (fail)
  rw [HWE.out]
  refine hcl.mono ?_
  rintro e w2 ⟨⟨x, rfl, hx⟩, at2, k2⟩
  have m0 : w2.heap[w.heap.size]? = some (.cells #[.func (.func l.fn) #[] l.caps] 78 (0, 0)) := (k2.block _ (by omega) (fun hm => by have := hnl _ hm; omega)).trans n0
  have m1 : w2.heap[w.heap.size + 1]? = some (.cells #[.func (.func r.fn) #[] r.caps] 78 (0, 0)) := (k2.block _ (by omega) (fun hm => by have := hnl _ hm; omega)).trans n1
  have s2 : w.heap.size + 2 ≤ w2.heap.size := by have := k2.size; omega
  have d1 := cell_of_one m1
  have K2 := hide k2
  have AT2 := hide at2
  have HX := hide hx
  have z1 : w.heap.size + 1 < w2.heap.size := by omega
  have hb2 : Below w2.heap.size w2 ((w2.alloc (.cells #[.int .i64 x.1, .int .i64 x.2] 81)).alloc (.cells #[.bool (!A.isEmpty)] 4)) := ((Below.refl _ _).alloc (Nat.le_refl _) _).alloc (by simp) _
  have d2 := (hb2.cell (p := ⟨w.heap.size + 1, 0, none⟩) z1).trans d1
  have hk0 : Kept (fun k => k ∈ l.blocks) w w2 := (Kept.of_below hw0).trans k2
  have hr2 : r.At lo w2 B := GT.At.kept hk0 (fun k hk h => by have := hlo k (.inl h); omega) hr (fun k hk h => hd k h hk)
  obtain ⟨W2, hW2⟩ : ∃ W2, (w2.alloc (.cells #[.int .i64 x.1, .int .i64 x.2] 81)).alloc (.cells #[.bool (!A.isEmpty)] 4) = W2 := ⟨_, rfl⟩
  have q1 : W2.heap[w2.heap.size]? = some (.cells #[.int .i64 x.1, .int .i64 x.2] 81 (0, 0)) := by rw [← hW2, Below.heap_alloc _ _ _ (by simp)]; exact heap_alloc_new w2 _
  have q2 : W2.heap[w2.heap.size + 1]? = some (.cells #[.bool (!A.isEmpty)] 4 (0, 0)) := by
    rw [← hW2]
    have := heap_alloc_new (w2.alloc (.cells #[.int .i64 x.1, .int .i64 x.2] 81)) (.cells #[.bool (!A.isEmpty)] 4)
    simpa using this
  have s3 : W2.heap.size = w2.heap.size + 2 := by rw [← hW2]; simp
  have hb3 : Below w2.heap.size w2 W2 := by rw [← hW2]; exact hb2
  have hcr := gives_all lo r W2 B (GT.At.kept (F := fun _ => False) (Kept.of_below hb3) (fun _ _ h => h) hr2 (fun _ _ h => h)) dr (fun k hk => hlo k (.inr hk))
  have HW2 := hide hW2
  have Q1 := hide q1
  have Q2 := hide q2
  have HB3 := hide hb3
  have HK0 := hide hk0
  have M0 := hide m0
  have M1 := hide m1
  clear hcl k2 at2 hx n0 n1 hW2 q1 q2 hb2 hb3 hk0 m0 m1 hr2
  go_wp2_with (fail)
  rw [HW2.out]
  refine hcr.mono ?_
  rintro e w3 ⟨⟨y, rfl, hy⟩, at3, k3⟩
  have K3 := hide k3
  have AT3 := hide at3
  have HY := hide hy
  clear hcr k3 at3 hy d1 d2
  go_wp2
  go_ret
  generalize hWF : (w3.alloc (.cells #[.int .i64 y.1, .int .i64 y.2] 81)).alloc (.cells #[.bool (!B.isEmpty)] 4) = WF
  have hbF : Below w3.heap.size w3 WF := by rw [← hWF]; exact ((Below.refl _ _).alloc (Nat.le_refl _) _).alloc (by simp) _
  have f1 : WF.heap[w3.heap.size]? = some (.cells #[.int .i64 y.1, .int .i64 y.2] 81 (0, 0)) := by rw [← hWF, Below.heap_alloc _ _ _ (by simp)]; exact heap_alloc_new w3 _
  have f2 : WF.heap[w3.heap.size + 1]? = some (.cells #[.bool (!B.isEmpty)] 4 (0, 0)) := by
    rw [← hWF]
    have := heap_alloc_new (w3.alloc (.cells #[.int .i64 y.1, .int .i64 y.2] 81)) (.cells #[.bool (!B.isEmpty)] 4)
    simpa using this
  have s4 : W2.heap.size ≤ w3.heap.size := K3.out.size
  have hnl2 := hnl
  have inr : ∀ k, w.heap.size ≤ k → k ∉ r.blocks := fun k hk hm => by have := hnr k hm; omega
  have inl : ∀ k, w.heap.size ≤ k → k ∉ l.blocks := fun k hk hm => by have := hnl k hm; omega
  -- from w2 to the end
  have k23 : Kept (fun k => k ∈ r.blocks) w2 WF := ((Kept.of_below HB3.out).trans K3.out).trans (Kept.of_below hbF)
  have kW : Kept (fun k => k ∈ r.blocks) W2 WF := K3.out.trans (Kept.of_below hbF)
  refine ⟨.node (w2.heap.size + 1) (w3.heap.size + 1) w2.heap.size w3.heap.size w.heap.size (w.heap.size + 1) l r, rfl, ⟨A, B, x, y, ⟨?_, f2, ?_, f1, ?_, ?_, HX.out, HY.out⟩, ?_, ?_, rfl⟩, ?_, ?_, ?_⟩
  · exact (kW.block _ (by omega) (inr _ (by omega))).trans Q2.out
  · exact (kW.block _ (by omega) (inr _ (by omega))).trans Q1.out
  · exact (k23.block _ (by omega) (inr _ (by omega))).trans M0.out
  · exact (k23.block _ (by omega) (inr _ (by omega))).trans M1.out
  · exact GT.At.kept k23 (fun k hk h => by have := hlo k (.inr h); omega) AT2.out (fun k hk h => hd k hk h)
  · exact GT.At.kept (F := fun _ => False) (Kept.of_below hbF) (fun _ _ h => h) AT3.out (fun _ _ h => h)
  · have g1 := fun k (h : k ∈ l.blocks) => hnl k h
    have g2 := fun k (h : k ∈ r.blocks) => hnr k h
    simp only [GT.blocks, List.nodup_cons, List.mem_cons, List.mem_append, not_or, List.nodup_append]
    refine ⟨⟨by omega, by omega, by omega, by omega, by omega, inl _ (by omega), inr _ (by omega)⟩, ⟨by omega, by omega, by omega, by omega, inl _ (by omega), inr _ (by omega)⟩, ⟨by omega, by omega, by omega, inl _ (by omega), inr _ (by omega)⟩, ⟨by omega, by omega, inl _ (by omega), inr _ (by omega)⟩, ⟨by omega, inl _ (by omega), inr _ (by omega)⟩, ⟨inl _ (by omega), inr _ (by omega)⟩, dl, dr, fun a ha b hb e => by subst e; exact hd a ha hb⟩
  · intro k hk
    simp only [GT.blocks, List.mem_cons, List.mem_append] at hk
    rcases hk with rfl | rfl | rfl | rfl | rfl | rfl | h | h
    · exact .inr (.inr (by omega))
    · exact .inr (.inr (by omega))
    · exact .inr (.inr (by omega))
    · exact .inr (.inr (by omega))
    · exact .inr (.inr (by omega))
    · exact .inr (.inr (by omega))
    · exact .inl h
    · exact .inr (.inl h)
  · exact (HK0.out.mono (fun i h => .inl h)).trans (k23.mono (fun i h => .inr h))
end Go.Proofs.Ytljagefcgijmlaa
