/-
  pieces by its contract; a call behind the last piece. Conditions: the lists are sets, of at most 2^32 spans each, and at most 2^31 lists.
-/
import Derived.Test.YtljagefcgijmlaaPc2
import Derived.Laws.EntriesVeiled
namespace Go.Proofs.Ytljagefcgijmlaa
open Go.RowKit Go.Lib

set_option maxRecDepth 100000 in
theorem piece_done (b0 b1 : Nat) (S : List (List Spn)) (bl bm be bi bn ib : Nat) (t : GT) (w : World) (lo : Int) (ins : List Bool) (es : List End) (e : End) (h : PAt b0 b1 S bl bm be bi bn ib t w lo ins es e) (hlo : 4294967295 < lo) :
    Calls Try.prog 65 #[ptr bl, ptr bm, ptr be, ptr bi, ptr bn] w fun e w' => e = .returned (.tuple #[.agg #[.int .i64 0, .int .i64 0, .slice none 0 0], .bool false]) ∧ Below w.heap.size w w' := by
  unfold ptr
  have c1 := cell_of_one h.lc
  have l1 := lt_of_block h.lc
  clear h
  go_enter Try.func65, Try.ntmps65
  go_wp2
  (try simp only [Exit.inBlock, Exit.then])
  refine bodyPost_ret (v := .tuple #[.agg #[.int .i64 0, .int .i64 0, .slice none 0 0], .bool false]) ?_ rfl ?_
  · rw [results_cell_tmp rfl]
    go_simp
  · exact ⟨rfl, (Below.refl _ _).alloc (Nat.le_refl _) _⟩

theorem own_full {w : World} {base e g n : Nat} {xs : List Value} (h : w.ownsRow base e 1 (.slice (some ⟨g, 0, none⟩) n n) n xs) : w.heap[g]? = some (.cells xs.toArray e (0, 0)) := by
  rcases h.2 with ⟨hv, _⟩ | ⟨g', cap, cur, hv, _, hg, _, _, hs, ht⟩
  · cases hv
  · injection hv with e1 e2 e3
    injection e1 with e1
    injection e1 with e1 _ _
    subst e1 e3
    rw [hg]
    have : cur.toList = xs := by rw [← ht, List.take_of_length_le (by simp [hs])]
    rw [← this]
theorem Try.info4 : (Try.prog.info? 4).map (fun i => (i.zero, i.size, i.bytes)) = some (some (.bool false), 1, 1) := by kernel_rfl
theorem made_false (n : Nat) : (madeCells (Value.bool false).cells (n * 1)).toList = (List.replicate n false).map Value.bool := by
  simp only [madeCells, Value.cells, List.map_replicate, Nat.mul_one]
  rw [List.eq_replicate_iff]
  refine ⟨by simp, fun b hb => ?_⟩
  simp only [Array.toList_map, List.mem_map] at hb
  obtain ⟨x, _, rfl⟩ := hb
  simp [Nat.mod_one]
set_option maxRecDepth 100000 in
set_option maxHeartbeats 2000000 in
theorem pieces_any (ao : Option Addr) (cap : Nat) (S : List (List Spn)) (w : World) (hat : SsAt w.heap.size w ao S) (hok : SetsOk S) (hcap : S.length ≤ cap) (hlen : S.length ≤ 2147483648) :
    Calls Try.prog 54 #[.slice ao S.length cap] w fun e w' => ∃ (bl bm be bi bn ib : Nat) (t : GT) (es : List End) (x : End), e = .returned (.func (.func 65) #[] #[ptr bl, ptr bm, ptr be, ptr bi, ptr bn]) ∧
      PAt w.heap.size w'.heap.size S bl bm be bi bn ib t w' 0 (List.replicate S.length false) es x ∧ Below w.heap.size w w' := by
  have hmf : ∀ (fn : Fn) (first cap : Array Value) (w : World), (Instr.makeFunc fn first cap).run Try.prog w = .ok (.func fn first cap) w := fun _ _ _ _ => rfl
  have hcon := endsOfAll_any w.heap.size S.length S (Nat.le_refl _) ao cap 0 w hat (Nat.le_refl _) hok hcap (by omega)
  clear hat
  go_enter Try.func54, Try.ntmps54
  go_wp2_with (fail)
  refine hcon.mono ?_
  rintro e w1 ⟨t, es, rfl, g1, s1, p1⟩
  have G1 := hide g1
  have S1 := hide s1
  have P1 := hide p1
  have eg := t.enters
  have hk1 := g1.below.size
  clear g1 s1 p1 hcon
  unfold GT.val
  obtain ⟨i0, hi, hz0, hz1, hz2⟩ := info_parts Try.info4
  have HMD := hide (made_false S.length)
  have eg2 := heap_alloc_new w1 (.cells #[.func (.func t.fn) #[] t.caps] 78)
  have hs1 : (w1.alloc (.cells #[.func (.func t.fn) #[] t.caps] 78)).heap.size = w1.heap.size + 1 := by simp
  have hb1 : Below w1.heap.size w1 (w1.alloc (.cells #[.func (.func t.fn) #[] t.caps] 78)) := (Below.refl _ _).alloc (Nat.le_refl _) _
  go_wp2_with (at_make; refine wpList_make_full _ rfl (.tmp 11) (.tmp 11) 47 rfl 0 4 i0 (.bool false) 1 Try.underlying47 hi hz0 hz1 .i64 .i64 S.length S.length S.length rfl rfl rfl rfl (by rw [hz2]; omega) (by unfold maxLen; omega) (Nat.zero_le _) ?_; intro w2 h2 k2; have n2 := ((k2.block w1.heap.size (by omega) (by simp)).trans eg2); have c2 := cell_of_one n2; have z2 := lt_of_block n2; have N2 := hide n2; have H2 := hide h2; have K2 := hide k2; clear h2 k2 n2)
  have H2o := own_full H2.out
  rw [HMD.out, hs1] at H2o
  have k02 : Below w1.heap.size w1 w2 := ⟨K2.out.os.trans hb1.os, K2.out.tape.trans hb1.tape, K2.out.output.trans hb1.output, Nat.le_trans hb1.size K2.out.size, fun k hk => (K2.out.block k (by omega) (by simp)).trans (hb1.block k hk)⟩
  obtain ⟨W3, hW3⟩ : ∃ W3, w2.alloc (.cells #[.slice (some ⟨w1.heap.size + 1, 0, none⟩) S.length S.length] 47) = W3 := ⟨_, rfl⟩
  have k23 : Below w2.heap.size w2 W3 := by rw [← hW3]; exact (Below.refl _ _).alloc (Nat.le_refl _) _
  have s3 : W3.heap.size = w2.heap.size + 1 := by rw [← hW3]; simp
  have n3 : W3.heap[w2.heap.size]? = some (.cells #[.slice (some ⟨w1.heap.size + 1, 0, none⟩) S.length S.length] 47 (0, 0)) := by rw [← hW3]; exact heap_alloc_new w2 _
  have lib := lt_of_block H2o
  have k13 : Below w1.heap.size w1 W3 := k02.trans (k23.mono k02.size)
  have at3 : t.At w.heap.size W3 es := GT.At.kept (F := fun _ => False) (Kept.of_below k13) (fun _ _ h => h) G1.out.at' (fun _ _ h => h)
  have hcon := gives_all w.heap.size t W3 es at3 G1.out.nodup (fun k hk => (G1.out.new k hk).1)
  rw [hW3]
  refine hcon.mono ?_
  rintro e w4 ⟨⟨x, rfl, hx⟩, at4, k4⟩
  have K4 := hide k4
  have AT4 := hide at4
  have HX := hide hx
  clear k4 at4 hx hcon at3
  go_wp2
  go_ret
  generalize hWF : ((w4.alloc (.cells #[.int .i64 x.1, .int .i64 x.2] 81)).alloc (.cells #[.bool (!es.isEmpty)] 4)).alloc (.cells #[.int .i64 0] 3) = WF
  have hbF : Below w4.heap.size w4 WF := by rw [← hWF]; exact (((Below.refl _ _).alloc (Nat.le_refl _) _).alloc (by simp) _).alloc (by simp; omega) _
  have sF : WF.heap.size = w4.heap.size + 3 := by rw [← hWF]; simp
  have f1 : WF.heap[w4.heap.size]? = some (.cells #[.int .i64 x.1, .int .i64 x.2] 81 (0, 0)) := by rw [← hWF, Below.heap_alloc _ _ _ (by simp; omega), Below.heap_alloc _ _ _ (by simp)]; exact heap_alloc_new w4 _
  have f2 : WF.heap[w4.heap.size + 1]? = some (.cells #[.bool (!es.isEmpty)] 4 (0, 0)) := by
    rw [← hWF, Below.heap_alloc _ _ _ (by simp)]
    have := heap_alloc_new (w4.alloc (.cells #[.int .i64 x.1, .int .i64 x.2] 81)) (.cells #[.bool (!es.isEmpty)] 4)
    simpa using this
  have f3 : WF.heap[w4.heap.size + 2]? = some (.cells #[.int .i64 0] 3 (0, 0)) := by
    rw [← hWF]
    have := heap_alloc_new ((w4.alloc (.cells #[.int .i64 x.1, .int .i64 x.2] 81)).alloc (.cells #[.bool (!es.isEmpty)] 4)) (.cells #[.int .i64 0] 3)
    simpa using this
  have s4 := K4.out.size
  have tb := G1.out.new
  have nin : ∀ k, w1.heap.size ≤ k → k ∉ t.blocks := fun k hk hm => by have := (tb k hm).2; omega
  have kF : Kept (fun k => k ∈ t.blocks) W3 WF := K4.out.trans (Kept.of_below hbF)
  have n2 : W3.heap[w1.heap.size]? = _ := (k23.block _ (by omega)).trans N2.out
  have n4 : W3.heap[w1.heap.size + 1]? = _ := (k23.block _ (by omega)).trans H2o
  refine ⟨w4.heap.size + 2, w4.heap.size + 1, w4.heap.size, w2.heap.size, w1.heap.size, w1.heap.size + 1, t, es, x, rfl, ⟨f3, f2, f1, ?_, ?_, ?_, ?_, HX.out, ?_, ?_, Nat.le_refl _, hlen, PInv.start (fun L hL => (hok L hL).1) S1.out P1.out⟩, ?_⟩
  · exact (kF.block _ (by omega) (nin _ (by omega))).trans n3
  · exact (kF.block _ (by omega) (nin _ (by omega))).trans n4
  · exact (kF.block _ (by omega) (nin _ (by omega))).trans n2
  · exact GT.At.kept (F := fun _ => False) (Kept.of_below hbF) (fun _ _ h => h) AT4.out (fun _ _ h => h)
  · intro k hk
    simp only [List.mem_cons] at hk
    rcases hk with rfl | rfl | rfl | rfl | rfl | rfl | h
    · omega
    · omega
    · omega
    · omega
    · omega
    · omega
    · have := tb k h; omega
  · simp only [List.nodup_cons, List.mem_cons, not_or]
    exact ⟨⟨by omega, by omega, by omega, by omega, by omega, nin _ (by omega)⟩, ⟨by omega, by omega, by omega, by omega, nin _ (by omega)⟩, ⟨by omega, by omega, by omega, nin _ (by omega)⟩, ⟨by omega, by omega, nin _ (by omega)⟩, ⟨by omega, nin _ (by omega)⟩, nin _ (by omega), G1.out.nodup⟩
  · exact (G1.out.below.trans (k13.mono hk1)).trans (kF.below (by omega) (fun i hi => (tb i hi).1))
end Go.Proofs.Ytljagefcgijmlaa
