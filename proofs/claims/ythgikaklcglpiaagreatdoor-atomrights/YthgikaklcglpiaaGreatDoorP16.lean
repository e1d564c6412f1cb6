/-
  The reader's item by its contract. No condition.
-/
import Derived.Deep.DeepCutAuto
import Derived.Deep.CutBlock
import Derived.Test.YthgikaklcglpiaaGreatDoorP14
import Derived.Test.YthgikaklcglpiaaGreatDoorP10
import Derived.Test.YthgikaklcglpiaaGreatDoorP15
import Derived.Defers
import Derived.Recover
import Derived.Test.YthgikaklcglpiaaGreatDoorP07
namespace Go.Proofs.YthgikaklcglpiaaGreatDoor.L9
open Go.RowKit Go.Lib

theorem ld11 {W : World} {P : Nat} {t : TypeId} {f : Nat × Nat} {y0 y1 y2 y3 y4 y5 y6 y7 y8 y9 y10 : Value} (h : W.heap[P]? = some (.cells #[y0, y1, y2, y3, y4, y5, y6, y7, y8, y9, y10] t f)) : W.cell? ⟨P, 0, none⟩ = some y0 ∧ W.cell? ⟨P, 1, none⟩ = some y1 ∧ W.cell? ⟨P, 2, none⟩ = some y2 ∧ W.cell? ⟨P, 3, none⟩ = some y3 ∧ W.cell? ⟨P, 4, none⟩ = some y4 ∧ W.cell? ⟨P, 5, none⟩ = some y5 ∧ W.cell? ⟨P, 6, none⟩ = some y6 ∧ W.cell? ⟨P, 7, none⟩ = some y7 ∧ W.cell? ⟨P, 8, none⟩ = some y8 ∧ W.cell? ⟨P, 9, none⟩ = some y9 ∧ W.cell? ⟨P, 10, none⟩ = some y10 :=
  ⟨by rw [cell_of_row _ _ _ _ _ _ h]; rfl, by rw [cell_of_row _ _ _ _ _ _ h]; rfl, by rw [cell_of_row _ _ _ _ _ _ h]; rfl, by rw [cell_of_row _ _ _ _ _ _ h]; rfl, by rw [cell_of_row _ _ _ _ _ _ h]; rfl, by rw [cell_of_row _ _ _ _ _ _ h]; rfl, by rw [cell_of_row _ _ _ _ _ _ h]; rfl, by rw [cell_of_row _ _ _ _ _ _ h]; rfl, by rw [cell_of_row _ _ _ _ _ _ h]; rfl, by rw [cell_of_row _ _ _ _ _ _ h]; rfl, by rw [cell_of_row _ _ _ _ _ _ h]; rfl⟩
/-- The eleven cells of an item. -/
def itV (x : IT) (vs : List Value) : List Value := .int .i64 x.k :: .string ⟨x.nm.toArray⟩ :: (vs ++ [.int .i64 x.p])
abbrev bk (v : Value) : List Nat := blk v
mutual
theorem CtAt.mono {w : World} {base base' : Nat} (hb : base' ≤ base) : ∀ (c : CT) (vs : List Value) (bs : List Nat), CtAt w base c vs bs → CtAt w base' c vs bs
  | .mk k nm tx pre sp ns kids p, vs, bs, h => by
    unfold CtAt at h ⊢
    obtain ⟨v3, v4, v5, v6, cs, ks, h1, h2, h3, h4, h5, h6, h7⟩ := h
    exact ⟨v3, v4, v5, v6, cs, ks, h1, own_mono h2 hb, own_mono h3 hb, own_mono h4 hb, own_mono h5 hb, KidsAt.mono hb kids cs ks h6, h7⟩
theorem KidsAt.mono {w : World} {base base' : Nat} (hb : base' ≤ base) : ∀ (l : List CT) (cs : List Value) (ks : List Nat), KidsAt w base l cs ks → KidsAt w base' l cs ks
  | [], cs, ks, h => h
  | c :: l, cs, ks, h => by
    obtain ⟨vs, bs, cs', ks', h1, h2, h3, h4⟩ := h
    exact ⟨vs, bs, cs', ks', h1, h2, CtAt.mono hb c vs bs h3, KidsAt.mono hb l cs' ks' h4⟩
end
/-- What is written into lies below its blocks. -/
theorem CtAt.frame {F : Nat → Prop} {w w' : World} {base base' : Nat} {c : CT} {vs : List Value} {bs : List Nat} (h : CtAt w base c vs bs) (hk : Kept F w w') (hF : ∀ k, F k → k < base) (hb : base' ≤ base) : CtAt w' base' c vs bs :=
  CtAt.mono hb c vs bs (CtAt.kept hk c vs bs h (fun k h1 h2 => by have := (CtAt.lt h k h1).1; have := hF k h2; omega))
theorem own_none (w : World) (base : Nat) (e : TypeId) (size : Nat) : w.ownsRow base e size (.slice none 0 0) 0 [] := ⟨by simp, .inl ⟨rfl, rfl⟩⟩
end Go.Proofs.YthgikaklcglpiaaGreatDoor.L9
/-
  Items in memory; the reader's policy by its contract. No condition.
-/

namespace Go.Proofs.YthgikaklcglpiaaGreatDoor.L9
open Go.RowKit Go.Lib

/-- Items, their lists' blocks. -/
def ItsAt (w : World) (base : Nat) : List IT → List Value → List Nat → Prop
  | [], cs, ks => cs = [] ∧ ks = []
  | x :: l, cs, ks => ∃ vs bs cs' ks', cs = itV x vs ++ cs' ∧ ks = bs ++ ks' ∧ CtAt w base x.c vs bs ∧ ItsAt w base l cs' ks'
theorem ItsAt.kept {F : Nat → Prop} {w w' : World} {base : Nat} (hk : Kept F w w') : ∀ {l : List IT} {cs : List Value} {ks : List Nat}, ItsAt w base l cs ks → (∀ k ∈ ks, ¬ F k) → ItsAt w' base l cs ks
  | [], cs, ks, h, _ => h
  | c :: l, cs, ks, h, hF => by
    obtain ⟨vs, bs, cs', ks', h1, h2, h3, h4⟩ := h
    refine ⟨vs, bs, cs', ks', h1, h2, CtAt.kept hk _ vs bs h3 (fun j hj => hF j ?_), ItsAt.kept hk h4 (fun j hj => hF j ?_)⟩
    all_goals
      rw [h2]
      simp [hj]
theorem ItsAt.lt {w : World} {base : Nat} : ∀ {l : List IT} {cs : List Value} {ks : List Nat}, ItsAt w base l cs ks → ∀ k ∈ ks, base ≤ k ∧ k < w.heap.size
  | [], cs, ks, h => by
    obtain ⟨_, rfl⟩ := h
    intro k hk
    cases hk
  | c :: l, cs, ks, h => by
    obtain ⟨vs, bs, cs', ks', h1, h2, h3, h4⟩ := h
    intro k hk
    rw [h2, List.mem_append] at hk
    rcases hk with hk | hk
    · exact CtAt.lt h3 k hk
    · exact ItsAt.lt h4 k hk
theorem ItsAt.mono {w : World} {base base' : Nat} (hb : base' ≤ base) : ∀ {l : List IT} {cs : List Value} {ks : List Nat}, ItsAt w base l cs ks → ItsAt w base' l cs ks
  | [], _, _, h => h
  | c :: l, cs, ks, h => by
    obtain ⟨vs, bs, cs', ks', h1, h2, h3, h4⟩ := h
    exact ⟨vs, bs, cs', ks', h1, h2, CtAt.mono hb _ vs bs h3, ItsAt.mono hb h4⟩
/-- A policy's items in memory. -/
structure PolA (w : World) (base : Nat) (L : List IT) (v : Value) (cs : List Value) (bs : List Nat) : Prop where
  row : w.ownsRow base 71 11 v L.length cs
  its : ItsAt w base L cs bs
  nd : (bk v ++ bs).Nodup
theorem PolA.kept {F : Nat → Prop} {w w' : World} {base : Nat} {L : List IT} {v : Value} {cs : List Value} {bs : List Nat} (h : PolA w base L v cs bs) (hk : Kept F w w') (hF : ∀ k ∈ bk v ++ bs, ¬ F k) : PolA w' base L v cs bs :=
  ⟨own_kept h.row hk (fun k h1 h2 => hF k (List.mem_append.2 (.inl (mem_blk.2 h1))) h2), ItsAt.kept hk h.its (fun k h1 h2 => hF k (List.mem_append.2 (.inr h1)) h2), h.nd⟩
theorem PolA.lt {w : World} {base : Nat} {L : List IT} {v : Value} {cs : List Value} {bs : List Nat} (h : PolA w base L v cs bs) : ∀ k ∈ bk v ++ bs, base ≤ k ∧ k < w.heap.size := by
  intro k hk
  rcases List.mem_append.1 hk with hk | hk
  · exact World.ownsRow.lt h.row k (mem_blk.1 hk)
  · exact ItsAt.lt h.its k hk
theorem PolA.frame {F : Nat → Prop} {w w' : World} {base : Nat} {L : List IT} {v : Value} {cs : List Value} {bs : List Nat} (h : PolA w base L v cs bs) (hk : Kept F w w') (hF : ∀ k, F k → k < base) : PolA w' base L v cs bs :=
  h.kept hk (fun k h1 h2 => by have := (h.lt k h1).1; have := hF k h2; omega)
theorem PolA.below {w w' : World} {base : Nat} {L : List IT} {v : Value} {cs : List Value} {bs : List Nat} (h : PolA w base L v cs bs) (x : Below w.heap.size w w') : PolA w' base L v cs bs :=
  h.kept (F := fun _ => False) (Kept.of_below x) (fun _ _ hf => hf)
theorem PolA.mono {w : World} {base base' : Nat} {L : List IT} {v : Value} {cs : List Value} {bs : List Nat} (h : PolA w base L v cs bs) (hb : base' ≤ base) : PolA w base' L v cs bs :=
  ⟨own_mono h.row hb, ItsAt.mono hb h.its, h.nd⟩
theorem PolA.nil (w : World) (base : Nat) : PolA w base [] (.slice none 0 0) [] [] := ⟨own_none _ _ _ _, ⟨rfl, rfl⟩, List.nodup_nil⟩
end Go.Proofs.YthgikaklcglpiaaGreatDoor.L9
/-
  What a policy is written as. Condition: all its items are such as are written.
-/

namespace Go.Proofs.YthgikaklcglpiaaGreatDoor.L9
open Go.RowKit Go.Lib

theorem ItsAt.get {w : World} {base : Nat} : ∀ {l : List IT} {cs : List Value} {ks : List Nat} (_ : ItsAt w base l cs ks) (i : Nat) (hi : i < l.length), ∃ vs bs, CtAt w base l[i].c vs bs ∧ (∀ r, r < 11 → cs[i * 11 + r]? = (itV l[i] vs)[r]?)
  | [], cs, ks, h, i, hi => by simp at hi
  | x :: l, cs, ks, h, 0, hi => by
    obtain ⟨vs, bs, cs', ks', h1, h2, h3, h4⟩ := h
    refine ⟨vs, bs, h3, fun r hr => ?_⟩
    have hl : (itV x vs).length = 11 := by simp [itV, h3.len]
    rw [h1, List.getElem?_append_left (by omega), Nat.zero_mul, Nat.zero_add]
    rfl
  | x :: l, cs, ks, h, i + 1, hi => by
    obtain ⟨vs, bs, cs', ks', h1, h2, h3, h4⟩ := h
    obtain ⟨vs2, bs2, q1, q2⟩ := ItsAt.get h4 i (by simpa using hi)
    have hl : (itV x vs).length = 11 := by simp [itV, h3.len]
    refine ⟨vs2, bs2, q1, fun r hr => ?_⟩
    rw [h1, List.getElem?_append_right (by omega), hl, show (i + 1) * 11 + r - 11 = i * 11 + r by omega]
    exact q2 r hr
theorem lies120 : liesAt Tryz.prog Tryz.prog.depth 211 (3 / Tryz.prog.cellsOf 211) 0 209 1 = true := by kernel_rfl
set_option maxRecDepth 100000 in
theorem WrA.new (w : World) : WrA (w.alloc (.cells #[.pointer none, .slice none 0 0, .bool true] 211)) w.heap.size w.heap.size [] true := by
  have hsz : (#[.pointer none, .slice none 0 0, .bool true] : Array Value).size = 3 := rfl
  refine ⟨⟨#[.pointer none, .slice none 0 0, .bool true], ⟨heap_alloc_new w _, Nat.le_refl _, by rw [hsz]; decide, by rw [hsz]; exact lies120, by decide, .inl rfl, .slice none 0 0, rfl, World.ownsRow_nil _ _ _ _⟩, hsz, rfl, fun _ => rfl⟩, by simp, by simp⟩
end Go.Proofs.YthgikaklcglpiaaGreatDoor.L9
/-
  What Parse puts off, by its contracts: of a frame that panics with a fault, of one that returns. No condition.
-/
namespace Go.Proofs.YthgikaklcglpiaaGreatDoor.L9
open Go.RowKit Go.Lib

theorem tas_ok (e p : Int) (w : World) : (Instr.typeAssert (.iface 168 (.agg #[.int .i64 e, .int .i64 p])) 20 168 true).run Tryz.prog w = .ok (.tuple #[.agg #[.int .i64 e, .int .i64 p], .bool true]) w := by kernel_rfl
theorem tas_nil (w : World) : (Instr.typeAssert .nilIface 20 168 true).run Tryz.prog w = .ok (.tuple #[.agg #[.int .i64 0, .int .i64 0], .bool false]) w := by kernel_rfl
end Go.Proofs.YthgikaklcglpiaaGreatDoor.L9
/-
  Print, Right: of a policy that is written, and of one whose item has no kind. Condition: as in the texts before.
-/

namespace Go.Proofs.YthgikaklcglpiaaGreatDoor.L9
open Go.RowKit Go.Lib

set_option maxRecDepth 100000 in
set_option maxHeartbeats 2000000 in
theorem wcatch_bad {w : World} {p2 p3 : Nat} {x2 : ByteArray} {x3 : Int} (e0 q : Int) (older : List PanicEntry) (h2 : w.heap[p2]? = some (.cells #[.string x2] 9 (0, 0))) (h3 : w.heap[p3]? = some (.cells #[.int .i64 x3] 36 (0, 0))) :
    CallsD Tryz.prog 143 #[.pointer (some ⟨p2, 0, none⟩), .pointer (some ⟨p3, 0, none⟩)] (.panicking ({ v := .iface 168 (.agg #[.int .i64 e0, .int .i64 q]), recovered := false } :: older)) w fun e u' w' =>
      e = .returned (.tuple #[]) ∧ u' = .panicking ({ v := .iface 168 (.agg #[.int .i64 e0, .int .i64 q]), recovered := true } :: older) ∧ w'.heap[p2]? = some (.cells #[.string ⟨#[]⟩] 9 (0, 0)) ∧ w'.heap[p3]? = some (.cells #[.int .i64 e0] 36 (0, 0)) ∧ Kept (fun k => k = p2 ∨ k = p3) w w' := by
  have hta := tas_ok
  have H2 := hide h2
  have H3 := hide h3
  clear h2 h3
  refine callsD_of_wpS Tryz.func143 rfl fun c₀ cs hu => ?_
  apply wpS_seq
  apply wpS_region
  simp [wpOpsS, go_sem, recoverD, hu, Tryz.ntmps143, Exit.thenS, hta]
  clear hta
  have hrep : Array.replicate 10 undef = #[undef, undef, undef, undef, undef, undef, undef, undef, undef, undef] := rfl
  simp only [hrep, List.setIfInBounds_toArray, List.set_cons_zero, List.set_cons_succ, List.append_toArray, List.cons_append, List.nil_append]
  clear hrep
  refine wpS_of_wp ?_
  go_upto_region 2 with fail
  have XW : Hid (Below w.heap.size w (w.alloc (.cells #[.int .i64 e0, .int .i64 q] 168))) := al (Below.refl _ _) _
  have PW := hide (heap_alloc_new w (.cells #[.int .i64 e0, .int .i64 q] 168))
  obtain ⟨P, hP⟩ : ∃ P, P = w.heap.size := ⟨_, rfl⟩
  rw [← hP] at PW
  rw [← hP]
  have HP := hide hP
  clear hP
  generalize w.alloc (.cells #[.int .i64 e0, .int .i64 q] 168) = W at *
  refine wp_unt (S := fun V => V.cell? ⟨P, 0, none⟩ = some (.int .i64 e0)) 3 (by kernel_rfl) ?_
  have HS0 : Hid (Below W.heap.size W W.drew) := (Below.refl _ _).drew
  have X2 := hide (bt XW.out HS0.out (Nat.le_refl _))
  have P2 := hide ((HS0.out.block P (lt_of_block PW.out)).trans PW.out)
  clear HS0 XW PW
  generalize W.drew = wd at *
  have S2 : Hid (wd.cell? ⟨P, 0, none⟩ = some (.int .i64 e0)) := by unfold Hid; rw [cell_of_row _ _ _ _ _ _ P2.out]; rfl
  have n2 : P ≠ p2 := by have := HP.out; have := lt_of_block H2.out; omega
  have n3 : P ≠ p3 := by have := HP.out; have := lt_of_block H3.out; omega
  have n32 : p3 ≠ p2 := fun e => block_ne H3.out H2.out (by decide) e
  have A2 := hide ((X2.out.block p2 (lt_of_block H2.out)).trans H2.out)
  have A3 := hide ((X2.out.block p3 (lt_of_block H3.out)).trans H3.out)
  have ks : ∀ (V : World) (b : Nat) (u : Value), Kept (fun k => k = b) V (V.setCell ⟨b, 0, none⟩ u) := fun V b u => Kept.setCell (F := fun k => k = b) (p := ⟨b, 0, none⟩) (Kept.refl _ _) rfl u
  refine UntH.take (i := 0) (some 10) rfl rfl (by kernel_rfl) (by kernel_rfl) (by kernel_rfl) (by kernel_rfl) (fun _ _ _ _ h => h) (by rfl) S2.out ?_
  apply Exists.intro
  refine ⟨fun w' hw' => ?_, ?_⟩
  · have q1 := hw'
    go_simp
    first | done | rfl
  try simp only [Act.put, List.setIfInBounds_toArray, List.set_cons_zero, List.set_cons_succ]
  refine UntH.take (i := 1) (some 11) rfl rfl (by kernel_rfl) (by kernel_rfl) (by kernel_rfl) (by kernel_rfl) (fun _ _ _ _ h => h) (by rfl) S2.out ?_
  apply Exists.intro
  refine ⟨fun w' hw' => ?_, ?_⟩
  · have q1 := hw'
    go_simp
    first | done | rfl
  try simp only [Act.put, List.setIfInBounds_toArray, List.set_cons_zero, List.set_cons_succ]
  have c7 : wd.cell? ⟨p2, 0, none⟩ = some (.string x2) := by rw [cell_of_row _ _ _ _ _ _ A2.out]; rfl
  have f7 := frozen_of_row wd p2 0 _ _ A2.out
  have k7 := ks wd p2 (.string ⟨#[]⟩)
  have b7 : (wd.setCell ⟨p2, 0, none⟩ (.string ⟨#[]⟩)).heap[p2]? = some (.cells #[(.string ⟨#[]⟩)] 9 (0, 0)) := by
    have := block_setCell' A2.out 0 (.string ⟨#[]⟩)
    simpa using this
  have Bp3 := hide ((k7.block p3 (lt_of_block A3.out) n32).trans A3.out)
  have BP := hide ((k7.block P (lt_of_block P2.out) n2).trans P2.out)
  have Bp2 := hide b7
  have K5 : Hid (Kept (fun k => k = p2 ∨ k = p3) w (wd.setCell ⟨p2, 0, none⟩ (.string ⟨#[]⟩))) := (Kept.of_below X2.out).trans (k7.mono (fun _ h => .inl h))
  have S5 : Hid ((wd.setCell ⟨p2, 0, none⟩ (.string ⟨#[]⟩)).cell? ⟨P, 0, none⟩ = some (.int .i64 e0)) := by unfold Hid; rw [cell_of_row _ _ _ _ _ _ BP.out]; rfl
  refine UntH.step (i := 2) (by kernel_rfl) rfl (fun K hK => ?_)
  go_simp
  refine hK _ _ S5.out ?_
  clear hK K c7 f7 k7 b7 A2 A3 P2 S2 X2
  generalize wd.setCell ⟨p2, 0, none⟩ (.string ⟨#[]⟩) = w5 at *
  have A2 := hide Bp2.out
  have A3 := hide Bp3.out
  clear Bp2 Bp3 BP
  have c7 : w5.cell? ⟨p3, 0, none⟩ = some (.int .i64 x3) := by rw [cell_of_row _ _ _ _ _ _ A3.out]; rfl
  have f7 := frozen_of_row w5 p3 0 _ _ A3.out
  have k7 := ks w5 p3 (.int .i64 e0)
  have b7 : (w5.setCell ⟨p3, 0, none⟩ (.int .i64 e0)).heap[p3]? = some (.cells #[(.int .i64 e0)] 36 (0, 0)) := by
    have := block_setCell' A3.out 0 (.int .i64 e0)
    simpa using this
  have Bp2 := hide ((k7.block p2 (lt_of_block A2.out) n32.symm).trans A2.out)
  have Bp3 := hide b7
  have K6 : Hid (Kept (fun k => k = p2 ∨ k = p3) w (w5.setCell ⟨p3, 0, none⟩ (.int .i64 e0))) := K5.out.trans (k7.mono (fun _ h => .inr h))
  refine UntH.last (by kernel_rfl) rfl (by kernel_rfl) (by kernel_rfl) (fun K hK => ?_)
  go_simp
  refine hK _ _ ?_
  clear hK K c7 f7 k7 b7 A2 A3 S5 K5
  generalize w5.setCell ⟨p3, 0, none⟩ (.int .i64 e0) = w7 at *
  try go_wp2
  simp [bodyPostS, results, Tryz.results143]
  exact ⟨Bp2.out, Bp3.out, K6.out⟩
set_option maxRecDepth 100000 in
set_option maxHeartbeats 2000000 in
theorem wcatch_idle (p2 p3 : Nat) (w : World) :
    CallsD Tryz.prog 143 #[.pointer (some ⟨p2, 0, none⟩), .pointer (some ⟨p3, 0, none⟩)] .returning w fun e u' w' => e = .returned (.tuple #[]) ∧ u' = .returning ∧ Below w.heap.size w w' := by
  have hta := tas_nil
  refine callsD_of_wpS Tryz.func143 rfl fun c₀ cs hu => ?_
  apply wpS_seq
  apply wpS_region
  simp [wpOpsS, go_sem, recoverD, hu, Tryz.ntmps143, Exit.thenS, hta]
  clear hta
  have hrep : Array.replicate 10 undef = #[undef, undef, undef, undef, undef, undef, undef, undef, undef, undef] := rfl
  simp only [hrep, List.setIfInBounds_toArray, List.set_cons_zero, List.set_cons_succ, List.append_toArray, List.cons_append, List.nil_append]
  clear hrep
  refine wpS_of_wp ?_
  go_wp2
  cases c₀
  simp_all [bodyPostS, results, Tryz.results143]
  exact al (Below.refl _ _) _
set_option maxRecDepth 100000 in
set_option maxHeartbeats 4000000 in
/-- Print of whatever written tells of it. -/
theorem print_by {w : World} {v : Value} {ao : Option Addr} {n cp : Nat} (hv : v = .slice ao n cp) (bad : Bool) (t : By)
    (hw : ∀ V, Below w.heap.size w V → Calls Tryz.prog 144 #[.agg #[v]] V fun e w' => (if bad = true then e = pan 93 0 else e = .returned (.string ⟨t.toArray⟩)) ∧ Below V.heap.size V w') :
    Calls Tryz.prog 98 #[.agg #[v]] w fun e w' => e = .returned (.tuple #[.string ⟨(if bad = true then [] else t).toArray⟩, .int .i64 (if bad = true then 93 else 0)]) ∧ Below w.heap.size w w' := by
  subst hv
  have hmf : ∀ (fn : Fn) (first cap : Array Value) (w : World), (Instr.makeFunc fn first cap).run Tryz.prog w = .ok (.func fn first cap) w := fun _ _ _ _ => rfl
  obtain ⟨p1, hp1⟩ : ∃ p, p = w.heap.size := ⟨_, rfl⟩
  obtain ⟨p2, hp2⟩ : ∃ p, p = w.heap.size + 1 := ⟨_, rfl⟩
  obtain ⟨p3, hp3⟩ : ∃ p, p = w.heap.size + 1 + 1 := ⟨_, rfl⟩
  obtain ⟨W, hW⟩ : ∃ W, W = ((w.alloc (.cells #[.slice ao n cp] 61)).alloc (.cells #[.string ⟨#[]⟩] 9)).alloc (.cells #[.int .i64 0] 36) := ⟨_, rfl⟩
  have X0 := hide (show Below w.heap.size w W by rw [hW]; exact al (al (al (Below.refl _ _) _) _) _)
  have A1 := hide (show W.heap[p1]? = some (.cells #[.slice ao n cp] 61 (0, 0)) by
    rw [hW, hp1]
    exact (heap_alloc_old _ _ (by simp; omega)).trans ((heap_alloc_old _ _ (by simp)).trans (heap_alloc_new w _)))
  have A2 := hide (show W.heap[p2]? = some (.cells #[.string ⟨#[]⟩] 9 (0, 0)) by
    rw [hW, hp2, show w.heap.size + 1 = (w.alloc (.cells #[.slice ao n cp] 61)).heap.size by simp]
    exact (heap_alloc_old _ _ (by simp)).trans (heap_alloc_new _ _))
  have A3 := hide (show W.heap[p3]? = some (.cells #[.int .i64 0] 36 (0, 0)) by
    rw [hW, hp3, show w.heap.size + 1 + 1 = ((w.alloc (.cells #[.slice ao n cp] 61)).alloc (.cells #[.string ⟨#[]⟩] 9)).heap.size by simp]
    exact heap_alloc_new _ _)
  have HSZ : Hid (p2 = w.heap.size + 1 ∧ p3 = w.heap.size + 2) := ⟨hp2, hp3⟩
  have HC := hide (hw W X0.out)
  clear hw
  have q1 : W.cell? ⟨p1, 0, none⟩ = some (.slice ao n cp) := by rw [cell_of_row _ _ _ _ _ _ A1.out]; rfl
  go_enter_defers Tryz.func98, Tryz.ntmps98
  go_upto_region 1 with fail
  rw [← hp3, ← hp2, ← hW, ← hp1]
  clear hW hp1 hp2 hp3
  go_upto_region 2 with fail
  cases bad with
  | true =>
    simp only [if_true] at HC ⊢
    go_wp2_with (go_at_call 144; refine HC.out.mono ?_; rintro e w6 ⟨he', x6⟩; unfold pan at he'; subst he'; have X6 := hide x6; clear x6)
    have E2 := hide ((X6.out.block p2 (lt_of_block A2.out)).trans A2.out)
    have E3 := hide ((X6.out.block p3 (lt_of_block A3.out)).trans A3.out)
    refine leaves_cons (f := 143) (args := #[.pointer (some ⟨p2, 0, none⟩), .pointer (some ⟨p3, 0, none⟩)]) (by simp) (by simp [go_sem]) ?_
    refine (wcatch_bad 93 0 [] E2.out E3.out).mono ?_
    rintro e u' w7 ⟨rfl, rfl, h2, h3, k7⟩
    have g2 : w7.cell? ⟨p2, 0, none⟩ = some (.string ⟨#[]⟩) := by rw [cell_of_row _ _ _ _ _ _ h2]; rfl
    have g3 : w7.cell? ⟨p3, 0, none⟩ = some (.int .i64 93) := by rw [cell_of_row _ _ _ _ _ _ h3]; rfl
    have X7 : Below w.heap.size w w7 := Kept.low (bt X0.out X6.out (Nat.le_refl _)) k7 (fun k hk => by have := HSZ.out; rcases hk with e | e <;> omega)
    simp only [settle]
    exact ⟨.tuple #[.string ⟨#[]⟩, .int .i64 93], by simp [results, Tryz.results98, go_sem, g2, g3], rfl, X7⟩
  | false =>
    simp only [Bool.false_eq_true, if_false] at HC ⊢
    go_wp2_with (fail)
    refine HC.out.mono ?_
    rintro e w6 ⟨rfl, x6⟩
    have X6 := hide (bt X0.out x6 (Nat.le_refl _))
    have E2 := hide ((x6.block p2 (lt_of_block A2.out)).trans A2.out)
    have E3 := hide ((x6.block p3 (lt_of_block A3.out)).trans A3.out)
    clear x6 A1 A2 A3 X0 HC q1
    have ks : ∀ (V : World) (b : Nat) (u : Value), Kept (fun k => k = b) V (V.setCell ⟨b, 0, none⟩ u) := fun V b u => Kept.setCell (F := fun k => k = b) (p := ⟨b, 0, none⟩) (Kept.refl _ _) rfl u
    have n23 : p3 ≠ p2 := by have := HSZ.out; omega
    have c2 : w6.cell? ⟨p2, 0, none⟩ = some (.string ⟨#[]⟩) := by rw [cell_of_row _ _ _ _ _ _ E2.out]; rfl
    have f2 := frozen_of_row w6 p2 0 _ _ E2.out
    have k2 := ks w6 p2 (.string ⟨t.toArray⟩)
    have F2 : Hid ((w6.setCell ⟨p2, 0, none⟩ (.string ⟨t.toArray⟩)).heap[p2]? = some (.cells #[.string ⟨t.toArray⟩] 9 (0, 0))) := by
      have := block_setCell' E2.out 0 (.string ⟨t.toArray⟩)
      simpa [Hid] using this
    have F3 := hide ((k2.block p3 (lt_of_block E3.out) n23).trans E3.out)
    obtain ⟨w7, hw7⟩ : ∃ w7, w7 = w6.setCell ⟨p2, 0, none⟩ (.string ⟨t.toArray⟩) := ⟨_, rfl⟩
    rw [← hw7] at F2 F3 k2
    have c3 : w7.cell? ⟨p3, 0, none⟩ = some (.int .i64 0) := by rw [cell_of_row _ _ _ _ _ _ F3.out]; rfl
    have f3 := frozen_of_row w7 p3 0 _ _ F3.out
    have k3 := ks w7 p3 (.int .i64 0)
    have G3 : Hid ((w7.setCell ⟨p3, 0, none⟩ (.int .i64 0)).heap[p3]? = some (.cells #[.int .i64 0] 36 (0, 0))) := by
      have := block_setCell' F3.out 0 (.int .i64 0)
      simpa [Hid] using this
    have G2 := hide ((k3.block p2 (lt_of_block F2.out) n23.symm).trans F2.out)
    obtain ⟨w8, hw8⟩ : ∃ w8, w8 = w7.setCell ⟨p3, 0, none⟩ (.int .i64 0) := ⟨_, rfl⟩
    rw [← hw8] at G2 G3 k3
    have K8 : Hid (Kept (fun k => k = p2 ∨ k = p3) w6 w8) := (k2.mono (fun _ h => .inl h)).trans (k3.mono (fun _ h => .inr h))
    have X8 : Hid (Below w.heap.size w w8) := Kept.low X6.out K8.out (fun k hk => by have := HSZ.out; rcases hk with e | e <;> omega)
    rw [hw7] at c3 f3
    rw [hw7] at hw8
    clear hw7 k2 k3 E2 E3 F2 F3 K8 X6
    go_wp2
    rw [← hw8]
    clear hw8 c2 f2 c3 f3
    refine leaves_cons (f := 143) (args := #[.pointer (some ⟨p2, 0, none⟩), .pointer (some ⟨p3, 0, none⟩)]) (by simp) (by simp [go_sem]) ?_
    refine (wcatch_idle p2 p3 w8).mono ?_
    rintro e u' wz ⟨rfl, rfl, xz⟩
    have g2 : wz.cell? ⟨p2, 0, none⟩ = some (.string ⟨t.toArray⟩) := by rw [cell_of_row _ _ _ _ _ _ ((xz.block p2 (lt_of_block G2.out)).trans G2.out)]; rfl
    have g3 : wz.cell? ⟨p3, 0, none⟩ = some (.int .i64 0) := by rw [cell_of_row _ _ _ _ _ _ ((xz.block p3 (lt_of_block G3.out)).trans G3.out)]; rfl
    simp only [settle, Leaves]
    exact ⟨.tuple #[.string ⟨t.toArray⟩, .int .i64 0], by simp [results, Tryz.results98, go_sem, g2, g3], rfl, bt X8.out xz (Nat.le_refl _)⟩
end Go.Proofs.YthgikaklcglpiaaGreatDoor.L9
