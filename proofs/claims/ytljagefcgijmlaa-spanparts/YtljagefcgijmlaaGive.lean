/-
  The closures that give ends, one by one: what each holds in memory, and what a call gives. No condition beyond what the state says.
-/
import Derived.Test.YtljagefcgijmlaaMake
import Derived.Laws.ResultCell
namespace Go.Proofs.Ytljagefcgijmlaa
open Go.RowKit Go.Lib

/-- A closure over one set, or over two closures: its cells' blocks. -/
inductive GT where
  | leaf (g a s : Nat)
  | node (am bm a b f g : Nat) (l r : GT)
def ptr (b : Nat) : Value := .pointer (some ⟨b, 0, none⟩)
def GT.fn : GT → Nat
  | .leaf .. => 84
  | .node .. => 85
def GT.caps : GT → Array Value
  | .leaf g a s => #[ptr g, ptr a, ptr s]
  | .node am bm a b f g _ _ => #[ptr am, ptr bm, ptr a, ptr b, ptr f, ptr g]
def GT.val (t : GT) : Value := .func (.func t.fn) #[] t.caps
def GT.blocks : GT → List Nat
  | .leaf g a s => [g, a, s]
  | .node am bm a b f g l r => am :: bm :: a :: b :: f :: g :: (l.blocks ++ r.blocks)
def leE (x y : End) : Bool := decide (x.1 ≤ y.1)
/-- What a closure over a set holds. -/
structure LeafAt (lo : Nat) (w : World) (g a s : Nat) (es : List End) (L : List Spn) (ao : Option Addr) (cap k set : Nat) : Prop where
  gc : w.heap[g]? = some (.cells #[.int .i64 k] 3 (0, 0))
  ac : w.heap[a]? = some (.cells #[.slice ao L.length cap] 22 (0, 0))
  sc : w.heap[s]? = some (.cells #[.int .i64 set] 3 (0, 0))
  at' : SpAt w ao L
  low : ∀ x, ao = some x → x.block < lo
  le : k ≤ 2 * L.length
  len : L.length ≤ 4294967296
  bnd : ∀ s ∈ L, Bnd s
  es' : es = (endsL L set).drop k
/-- What a closure over two closures holds of its own. -/
structure NodeAt (w : World) (am bm a b f g : Nat) (l r : GT) (A B : List End) (ea eb : End) : Prop where
  amc : w.heap[am]? = some (.cells #[.bool (!A.isEmpty)] 4 (0, 0))
  bmc : w.heap[bm]? = some (.cells #[.bool (!B.isEmpty)] 4 (0, 0))
  ac : w.heap[a]? = some (.cells #[.int .i64 ea.1, .int .i64 ea.2] 81 (0, 0))
  bc : w.heap[b]? = some (.cells #[.int .i64 eb.1, .int .i64 eb.2] 81 (0, 0))
  fc : w.heap[f]? = some (.cells #[l.val] 78 (0, 0))
  gc : w.heap[g]? = some (.cells #[r.val] 78 (0, 0))
  hA : ∀ e A', A = e :: A' → ea = e
  hB : ∀ e B', B = e :: B' → eb = e
def GT.At (lo : Nat) (w : World) : GT → List End → Prop
  | .leaf g a s, es => ∃ L ao cap k set, LeafAt lo w g a s es L ao cap k set
  | .node am bm a b f g l r, es => ∃ A B ea eb, NodeAt w am bm a b f g l r A B ea eb ∧ l.At lo w A.tail ∧ r.At lo w B.tail ∧ es = A.merge B leE

theorem GT.At.lt {lo : Nat} {w : World} : ∀ {t : GT} {es : List End}, t.At lo w es → ∀ k ∈ t.blocks, k < w.heap.size
  | .leaf g a s, _, ⟨_, _, _, _, _, h⟩, k, hk => by
    simp only [GT.blocks, List.mem_cons, List.not_mem_nil, or_false] at hk
    rcases hk with rfl | rfl | rfl
    · exact lt_of_block h.gc
    · exact lt_of_block h.ac
    · exact lt_of_block h.sc
  | .node am bm a b f g l r, _, ⟨A, B, ea, eb, h, hl, hr, _⟩, k, hk => by
    simp only [GT.blocks, List.mem_cons, List.mem_append] at hk
    rcases hk with rfl | rfl | rfl | rfl | rfl | rfl | hk | hk
    · exact lt_of_block h.amc
    · exact lt_of_block h.bmc
    · exact lt_of_block h.ac
    · exact lt_of_block h.bc
    · exact lt_of_block h.fc
    · exact lt_of_block h.gc
    · exact GT.At.lt hl k hk
    · exact GT.At.lt hr k hk
theorem GT.At.kept {F : Nat → Prop} {lo : Nat} {w w' : World} (hk : Kept F w w') (hlo : ∀ k, k < lo → ¬ F k) : ∀ {t : GT} {es : List End}, t.At lo w es → (∀ k ∈ t.blocks, ¬ F k) → t.At lo w' es
  | .leaf g a s, _, ⟨L, ao, cap, k, set, h⟩, hF => by
    have hf := fun x (hx : x ∈ (GT.leaf g a s).blocks) => hF x hx
    simp only [GT.blocks, List.mem_cons, List.not_mem_nil, or_false] at hf
    exact ⟨L, ao, cap, k, set, (hk.block g (lt_of_block h.gc) (hf g (by simp))).trans h.gc, (hk.block a (lt_of_block h.ac) (hf a (by simp))).trans h.ac, (hk.block s (lt_of_block h.sc) (hf s (by simp))).trans h.sc, h.at'.kept hk (fun x hx => hlo _ (h.low x hx)), h.low, h.le, h.len, h.bnd, h.es'⟩
  | .node am bm a b f g l r, _, ⟨A, B, ea, eb, h, hl, hr, he⟩, hF => by
    have hf := fun x (hx : x ∈ (GT.node am bm a b f g l r).blocks) => hF x hx
    simp only [GT.blocks, List.mem_cons, List.mem_append] at hf
    refine ⟨A, B, ea, eb, ⟨(hk.block am (lt_of_block h.amc) (hf am (by simp))).trans h.amc, (hk.block bm (lt_of_block h.bmc) (hf bm (by simp))).trans h.bmc, (hk.block a (lt_of_block h.ac) (hf a (by simp))).trans h.ac, (hk.block b (lt_of_block h.bc) (hf b (by simp))).trans h.bc, (hk.block f (lt_of_block h.fc) (hf f (by simp))).trans h.fc, (hk.block g (lt_of_block h.gc) (hf g (by simp))).trans h.gc, h.hA, h.hB⟩, GT.At.kept hk hlo hl (fun x hx => hf x (by simp [hx])), GT.At.kept hk hlo hr (fun x hx => hf x (by simp [hx])), he⟩

/-- What a call gives. -/
def Gives (es : List End) (e : Ending) : Prop := ∃ x : End, e = .returned (.tuple #[.agg #[.int .i64 x.1, .int .i64 x.2], .bool (!es.isEmpty)]) ∧ ∀ y ys, es = y :: ys → x = y

theorem leaf_step {lo : Nat} {w w' : World} {g a s k' : Nat} {es : List End} {L : List Spn} {ao : Option Addr} {cap k set : Nat} (h : LeafAt lo w g a s es L ao cap k set) (hg : lo ≤ g) (hne : g ≠ a ∧ g ≠ s) (hk : Kept (fun b => b = g) w w')
    (hc : w'.heap[g]? = some (.cells #[.int .i64 k'] 3 (0, 0))) (hle : k' ≤ 2 * L.length) : LeafAt lo w' g a s ((endsL L set).drop k') L ao cap k' set :=
  ⟨hc, (hk.block a (lt_of_block h.ac) (fun e => hne.1 e.symm)).trans h.ac, (hk.block s (lt_of_block h.sc) (fun e => hne.2 e.symm)).trans h.sc, h.at'.kept hk (fun x hx e => by have := h.low x hx; omega), h.low, hle, h.len, h.bnd, rfl⟩

set_option maxRecDepth 100000 in
set_option maxHeartbeats 2000000 in
theorem give_leaf (lo g a s : Nat) (w : World) (es : List End) (h : (GT.leaf g a s).At lo w es) (hn : (GT.leaf g a s).blocks.Nodup) (hlo : ∀ k ∈ (GT.leaf g a s).blocks, lo ≤ k) :
    Calls Try.prog 84 #[ptr g, ptr a, ptr s] w fun e w' => Gives es e ∧ (GT.leaf g a s).At lo w' es.tail ∧ Kept (fun k => k ∈ (GT.leaf g a s).blocks) w w' := by
  obtain ⟨L, ao, cap, k, set, h⟩ := h
  have hne : g ≠ a ∧ g ≠ s := by
    simp only [GT.blocks, List.nodup_cons, List.mem_cons, List.not_mem_nil, or_false, not_or] at hn
    exact hn.1
  have hg := hlo g (by simp [GT.blocks])
  have l1 := lt_of_block h.gc
  have l2 := lt_of_block h.ac
  have l3 := lt_of_block h.sc
  have c1 := cell_of_one h.gc
  have c2 := cell_of_one h.ac
  have c3 := cell_of_one h.sc
  have f1 := free_of_one h.gc
  have hlen := h.len
  have hle := h.le
  have HH := hide h
  clear h
  unfold ptr
  by_cases hd : k = 2 * L.length
  · have hd' : (k : Int) = 2 * (L.length : Int) := by omega
    have HE : Hid (es = []) := by rw [Hid, HH.out.es', hd]; exact endsL_done L set
    go_enter Try.func84, Try.ntmps84
    go_wp2
    (try simp only [Exit.inBlock, Exit.then])
    refine bodyPost_ret (v := .tuple #[.agg #[.int .i64 0, .int .i64 0], .bool false]) ?_ rfl ?_
    · rw [results_cell_tmp rfl]
      go_simp
    · have hbl : Below w.heap.size w (w.alloc (.cells #[.int .i64 0, .int .i64 0] 81)) := (Below.refl _ _).alloc (Nat.le_refl _) _
      refine ⟨⟨(0, 0), ?_, ?_⟩, ?_, Kept.of_below hbl⟩
      · rw [HE.out]; rfl
      · intro y ys hy; rw [HE.out] at hy; cases hy
      · rw [HE.out]
        refine GT.At.kept (F := fun _ => False) (Kept.of_below hbl) (fun _ _ h => h) ⟨L, ao, cap, k, set, ?_⟩ (fun _ _ h => h)
        have := HH.out
        rw [HE.out] at this
        exact this
  · have hi : k / 2 < L.length := by omega
    obtain ⟨b, off, rfl, hb, hc⟩ := HH.out.at'.get hi
    obtain ⟨q1, q2⟩ := hc (k / 2) hi
    clear hc
    have hbd := HH.out.bnd L[k / 2] (List.getElem_mem hi)
    generalize hz : L.getD (k / 2) (0, 0) = z at q1 q2
    have hbd2 : Bnd z := by rw [← hz]; simpa [List.getD_eq_getElem?_getD, hi] using hbd
    unfold Bnd at hbd2
    clear hbd
    have hd' : ¬ (k : Int) = 2 * (L.length : Int) := by omega
    by_cases hodd : k % 2 = 1
    · have hm : (k : Int) % 2 = 1 := by omega
      have HE : Hid (es = (z.2 + 1, set) :: (endsL L set).drop (k + 1)) := by
        rw [Hid, HH.out.es', endsL_drop L set k (by omega), hz]
        simp [hodd]
      go_enter Try.func84, Try.ntmps84
      go_wp2
      have hkp : Kept (fun b => b = g) w ((w.setCell ⟨g, 0, none⟩ (.int .i64 ((k : Int) + 1))).alloc (.cells #[.int .i64 (z.2 + 1), .int .i64 set] 81)) := Kept.trans (Kept.setCell (Kept.refl (fun b => b = g) w) (p := ⟨g, 0, none⟩) rfl _) (Kept.of_below ((Below.refl _ _).alloc (Nat.le_refl _) _))
      have hcell : ((w.setCell ⟨g, 0, none⟩ (.int .i64 ((k : Int) + 1))).alloc (.cells #[.int .i64 (z.2 + 1), .int .i64 set] 81)).heap[g]? = some (.cells #[.int .i64 ((k + 1 : Nat) : Int)] 3 (0, 0)) := by
        rw [Below.heap_alloc _ _ _ (by simpa [World.setCell] using l1), one_setCell HH.out.gc]
        simp
      (try simp only [Exit.inBlock, Exit.then])
      refine bodyPost_ret (v := .tuple #[.agg #[.int .i64 (z.2 + 1), .int .i64 set], .bool true]) ?_ rfl ?_
      · rw [results_cell_tmp rfl]
        go_simp
      · refine ⟨⟨(z.2 + 1, set), ?_, ?_⟩, ?_, ?_⟩
        · rw [HE.out]
          rfl
        · intro y ys hy
          rw [HE.out] at hy
          exact (List.cons.inj hy).1
        · rw [HE.out]
          exact ⟨L, _, cap, k + 1, set, leaf_step HH.out hg hne hkp hcell (by omega)⟩
        · exact hkp.mono (fun i hi => by subst hi; simp [GT.blocks])
      
    · have hm : (k : Int) % 2 = 0 := by omega
      have HE : Hid (es = (z.1, set) :: (endsL L set).drop (k + 1)) := by
        rw [Hid, HH.out.es', endsL_drop L set k (by omega), hz]
        simp [hodd]
      go_enter Try.func84, Try.ntmps84
      go_wp2
      have hkp : Kept (fun b => b = g) w ((w.setCell ⟨g, 0, none⟩ (.int .i64 ((k : Int) + 1))).alloc (.cells #[.int .i64 (z.1), .int .i64 set] 81)) := Kept.trans (Kept.setCell (Kept.refl (fun b => b = g) w) (p := ⟨g, 0, none⟩) rfl _) (Kept.of_below ((Below.refl _ _).alloc (Nat.le_refl _) _))
      have hcell : ((w.setCell ⟨g, 0, none⟩ (.int .i64 ((k : Int) + 1))).alloc (.cells #[.int .i64 (z.1), .int .i64 set] 81)).heap[g]? = some (.cells #[.int .i64 ((k + 1 : Nat) : Int)] 3 (0, 0)) := by
        rw [Below.heap_alloc _ _ _ (by simpa [World.setCell] using l1), one_setCell HH.out.gc]
        simp
      (try simp only [Exit.inBlock, Exit.then])
      refine bodyPost_ret (v := .tuple #[.agg #[.int .i64 z.1, .int .i64 set], .bool true]) ?_ rfl ?_
      · rw [results_cell_tmp rfl]
        go_simp
      · refine ⟨⟨(z.1, set), ?_, ?_⟩, ?_, ?_⟩
        · rw [HE.out]
          rfl
        · intro y ys hy
          rw [HE.out] at hy
          exact (List.cons.inj hy).1
        · rw [HE.out]
          exact ⟨L, _, cap, k + 1, set, leaf_step HH.out hg hne hkp hcell (by omega)⟩
        · exact hkp.mono (fun i hi => by subst hi; simp [GT.blocks])
      
end Go.Proofs.Ytljagefcgijmlaa
