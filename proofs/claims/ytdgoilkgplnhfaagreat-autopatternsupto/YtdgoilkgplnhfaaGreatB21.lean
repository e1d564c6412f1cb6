/-
  Things numbered by looks that are structs of bools. Condition: at most 2^32 things.
-/
import Derived.Test.YtdgoilkgplnhfaaGreatB20
import Derived.Deep.WholeRow
import Derived.Laws.CopyOwn
import Derived.Great.BuildSlice
import Derived.Test.YtdgoilkgplnhfaaGreatB11
namespace Go.Proofs.YtdgoilkgplnhfaaGreat
open Go.RowKit Go.Lib Go.Maps

theorem Tryz.info73 : (Tryz.prog.info? 73).map (fun i => (i.zero, i.size)) = some (some (.agg (Array.replicate 64 (Value.bool false))), 64) := by kernel_rfl
set_option maxRecDepth 100000 in
set_option maxHeartbeats 4000000 in
theorem numT_any (N : Nat) (c0 : Value) (look : Nat → Array Value) (lit : Nat → Lit) (w : World) (hN : N ≤ 4294967296) (hk : ∀ i, i < N → keyOf Tryz.prog 73 (.agg (look i)) = some (lit i)) (hls : ∀ i, i < N → (look i).size = 64) (hla : ∀ i, i < N → (look i).all (·.oneCell') = true) (hkl : ∀ i, i < N → WideAt.IsKeyLit (lit i))
    (hc : ∀ i, i < N → ∀ W, Below w.heap.size w W → Calls Tryz.prog 43 #[.int .i64 (i : Nat), c0] W fun e w' => e = .returned (.agg (look i)) ∧ Below W.heap.size W w') :
    Calls Tryz.prog 42 #[.int .i64 (N : Nat), .func (.func 43) #[] #[c0]] w fun e w' => (∃ v1 v2, e = .returned (.tuple #[v1, v2]) ∧ ∃ num fst, NmDone w.heap.size lit N v1 v2 num fst w') ∧ Below w.heap.size w w' := by
  obtain ⟨i3, hi3, hz30, hz31, hz32⟩ := info_parts Tryz.info3n
  have hz0 : ∀ W, (zeroValue 3).run Tryz.prog W = .ok (.int .i64 0) W := fun W => Tryz.zeroValue3 W
  have hmm : ∀ W : World, (Instr.makeMap 133 none).run Tryz.prog W = .ok (.map (some W.heap.size)) (W.alloc (.map #[] 0)) := fun W => rfl
  have HC := hide hc
  have HK := hide hk
  have HKL := hide hkl
  have HLS := hide hls
  have HLA := hide hla
  obtain ⟨hzv, hsz⟩ := zero_of_info Tryz.info73
  obtain ⟨z, hz⟩ : ∃ z, z = (Array.replicate 64 (Value.bool false)) := ⟨_, rfl⟩
  have hzs : z.size = 64 := by rw [hz]; simp
  rw [← hz] at hzv
  have HZS := hide hzs
  have HSZ := hide hsz
  clear hz hzs hsz hls hla
  clear hc hk hkl
  have S0 := hide (fun w2 h1 h2 => NmS.start 73 w lit N w2 h1 h2)
  go_enter Tryz.func42, Tryz.ntmps42
  go_wp2_with (at_make; refine wpList_make_full _ rfl (.tmp 12) (.tmp 12) 22 rfl w.heap.size 3 i3 (.int .i64 0) 1 Tryz.underlying22 hi3 hz30 hz31 .i64 .i64 _ _ N rfl rfl rfl rfl (by rw [hz32]; omega) (by unfold maxLen; omega) (by simp) ?_; intro w2 h1 h2; have S1 := hide (S0.out w2 h1 h2); clear h1 h2)
  go_loopg [5, 15] (N + 1) (fun g v2 x wr => ∃ (num fst : List Nat), x = .int .i64 (num.length : Nat) ∧ Hid (NmS 73 w lit N w.heap.size (.slice (some ⟨w.heap.size + 1, 0, none⟩) N N) v2 num fst wr) ∧ N - num.length < g)
  case atStart => exact ⟨[], [], rfl, S1, by simp⟩
  case round =>
    obtain ⟨num, fst, rfl, S, hg⟩ := hrel
    have HG := hide hg
    clear hg S1 S0
    have hle := S.out.le
    obtain ⟨a2, k2, hv2, _⟩ := own_shape S.out.o2
    subst hv2
    by_cases hi : num.length < N
    · have hi' : (num.length : Int) < (N : Int) := by omega
      have H1 := hide (HC.out num.length hi wr S.out.bel)
      go_wp2_with (fail)
      refine H1.out.mono ?_
      rintro e w3 ⟨rfl, x3⟩
      clear H1
      obtain ⟨m, hmm2⟩ : ∃ m, m = look num.length := ⟨_, rfl⟩
      have HI : Hid ((Tryz.prog.info? 73).map (·.size) = some m.size) := by unfold Hid; rw [HSZ.out, hmm2, HLS.out _ hi]
      have HZ2 : Hid (z.size = m.size) := by unfold Hid; rw [HZS.out, hmm2, HLS.out _ hi]
      have HAL : Hid (m.all (·.oneCell') = true) := by unfold Hid; rw [hmm2]; exact HLA.out _ hi
      have HK0 := HK.out num.length hi
      rw [← hmm2] at HK0 ⊢
      have HBZ := hide (heap_alloc_new w3 (.cells z 73))
      have HBM := heap_alloc_new w3 (.cells m 73)
      have y3 : Below w3.heap.size w3 (w3.alloc (.cells m 73)) := al (Below.refl _ _) _
      have S4 := S.out.below (bt x3 y3 (Nat.le_refl _))
      have bb3 : ∃ bb, bb = w3.heap.size := ⟨_, rfl⟩
      clear hmm2 x3 y3
      go_upto_region 7 with (refine wpList_store_row rfl 73 (.tmp 8) (.tmp 20) rfl w3.heap.size m rfl rfl 73 z HBZ.out HI.out HZ2.out HAL.out ?_; rw [World.setRow_alloc_new])
      generalize w3.alloc (.cells m 73) = w5 at *
      obtain ⟨bb, hbb⟩ := bb3
      rw [← hbb] at HBM ⊢
      clear hbb HBZ
      have HBM := hide HBM
      rename World => w3
      have S3 := hide S4
      clear S4
      obtain ⟨D, hown, hh, ha⟩ := S3.out.map
      have HK1 := hide HK0
      clear HK0
      have HOWN := hide hown
      have HA := hide ha
      have hfl : fst.length ≤ num.length := by
        have h := S3.out.nf
        exact pigeon num.length fst.length (gN fst) h.fstlt (fun i h1 j h2 e => by rw [← h.numfst i h1, ← h.numfst j h2, e])
      by_cases hm : lit num.length ∈ fst.map lit
      · have hhas : Maps.has D (lit num.length) = true := (hh _).2 hm
        have HHIT : Hid (∀ c : Int, D.atKey (lit num.length) (.lit (.int .i64 0)) = .lit (.int .i64 c) → ∃ n, n < fst.length ∧ lit (gN fst n) = lit num.length ∧ c = (n : Int)) := fun c hc => by
          obtain ⟨n, hn, e, rfl⟩ := atKey_lit HA.out hc hm
          rw [List.length_map] at hn
          refine ⟨n, hn, ?_, rfl⟩
          rw [← e, List.getElem_map, gN_lt hn]
        obtain ⟨⟨u1, q1⟩, q2⟩ := S3.out.slot hi
        have HST := hide (fun n hn he => S3.out.hit (n := n) hi hn he)
        go_wp2_with (first | (refine wpList_load_row rfl 73 (.tmp 8) rfl bb rfl 73 m (0, 0) _ HBM.out Tryz.underlying73 rfl HI.out ?_) | (at_lookup; refine wpList_lookup_own_ok_int _ rfl _ _ 133 rfl 73 3 .i64 keyed73 Tryz.underlying133 Tryz.underlying3 (hz0 _) w.heap.size _ D rfl HOWN.out _ _ rfl HK1.out ?_; intro c hat hwc; obtain ⟨n, hn, hne, rfl⟩ := HHIT.out c hat; have S4 := hide (HST.out n hn hne); clear hat hwc hn hne))
        go_roundg (N - (num.length + 1) + 1)
        case measure => have := HG.out; omega
        case rel => exact ⟨num ++ [n], fst, by simp, S4, by simp⟩
      · have hhas : Maps.has D (lit num.length) = false := by
          cases hx : Maps.has D (lit num.length) with
          | false => rfl
          | true => exact absurd ((hh _).1 hx) hm
        have HPL : Hid (plainElem (H := Unit) Tryz.prog 3 (.int .i64 (fst.length : Int)) = some (.lit (.int .i64 (fst.length : Int)), [])) := plainElem_int Tryz.underlying3 (by simp [Lit.wf, IntKind.min, IntKind.max, IntKind.signed, IntKind.bits]; omega)
        have HFN : Hid ((fst.map lit).length < maxLen) := by unfold Hid maxLen; rw [List.length_map]; omega
        have HPUT := hide (fun (w4 : World) h1 (t4 : w3.mapTurned w4 w.heap.size) => S3.out.put (w' := w4) hm (HKL.out _ hi) hh ha HOWN.out h1 t4)
        go_wp2_with (first
          | (refine wpList_load_row rfl 73 (.tmp 8) rfl bb rfl 73 m (0, 0) _ HBM.out Tryz.underlying73 rfl HI.out ?_)
          | (at_lookup; refine wpList_lookup_own_ok_int _ rfl _ _ 133 rfl 73 3 .i64 keyed73 Tryz.underlying133 Tryz.underlying3 (hz0 _) w.heap.size _ D rfl HOWN.out _ _ rfl HK1.out ?_; intro c hat hwc; clear hat hwc)
          | (at_mapUpdate; refine wpList_mapUpdate_in _ rfl _ _ _ 133 rfl 73 3 keyed73 Tryz.underlying133 _ w.heap.size _ D rfl HOWN.out HFN.out _ _ _ rfl rfl HK1.out _ [] HPL.out ?_; intro w4 h4 t4; have S4 := hide (HPUT.out w4 h4 t4); have O5 := hide S4.out.o5; have HN5 := hide (one_int w4 num.length 3); have HS5 : Hid (w.heap.size ≤ (w4.alloc (.cells #[.int .i64 (num.length : Nat)] 3)).heap.size) := S4.out.s5; clear h4 t4)
          | (at_builtin; refine wpList_append_view rfl (.tmp 34) (.tmp 36) 22 rfl w.heap.size 3 i3 (.int .i64 0) 1 8 Tryz.underlying22 hi3 hz30 hz31 hz32 rfl (by decide) _ fst.length (nCells fst) rfl O5.out ⟨w4.heap.size, 0, none⟩ 1 1 [.int .i64 (num.length : Nat)] rfl rfl HN5.out (by simp [Value.oneCell']) (by decide) (by unfold maxLen; omega) (by omega) HS5.out ?_; intro v6 w6 g1 g2; obtain ⟨⟨⟨u6, q1⟩, q2⟩, S6⟩ := S4.out.app hi g1 g2; have S6 := hide S6; clear g1 g2))
        go_roundg (N - (num.length + 1) + 1)
        case measure => have := HG.out; omega
        case rel => exact ⟨num ++ [fst.length], fst ++ [num.length], by simp, S6, by simp⟩
    · have hi' : ¬ (num.length : Int) < (N : Int) := by omega
      go_wp2
      go_ret2
      refine ⟨⟨_, _, rfl, num, fst, ?_⟩, S.out.bel⟩
      have e : num.length = N := by omega
      have h1 := S.out.o1
      rw [e, Nat.sub_self, List.replicate_zero, List.append_nil] at h1
      exact ⟨h1, S.out.o2, S.out.ap, e, by have := S.out.nf; rw [e] at this; exact this⟩


end Go.Proofs.YtdgoilkgplnhfaaGreat
/-
  Loads of whole structs from any place, entries of a map's literal: laws. No condition.
-/
namespace Go.Proofs.YtdgoilkgplnhfaaGreat
open Go.RowKit Go.Lib Go.Maps

section
variable {P : Program}
theorem run_loadVar_at (w : World) (p : Addr) (ty : TypeId) (cs : Array Value) (d : TypeDesc) (hc : ∀ j v, cs[j]? = some v → w.cell? (p.add j) = some v)
    (hu : P.underlying ty = some d) (hd : (match d with | .struct _ | .array _ _ => true | _ => false) = true) (hi : (P.info? ty).map (·.size) = some cs.size) :
    (loadVar ty p).run P w = .ok (.agg cs) w := by
  have hl : (loadCells p cs.toList.length).run P w = .ok cs.toList.toArray w :=
    run_loadCells_list (P := P) w p cs.toList (fun j v hv => hc j v (by simpa using hv))
  cases hq : P.info? ty with
  | none => simp [hq] at hi
  | some i =>
    have hs : i.size = cs.size := by simpa [hq] using hi
    have hagg : (isAgg ty).run P w = .ok true w := by
      unfold isAgg
      rw [Sem.run_bind, run_underlying hu w]
      cases d <;> simp_all
    simp only [Array.length_toList, Array.toArray_toList] at hl
    simp [loadVar, Sem.run_bind, hagg, sizeOf, typeInfo, hq, hs, hl]
theorem wpList_load_at {ops : Array Oper} {rest : List Oper} {o : Oper} {a : Act} {w : World} {Q : Exit → Act → World → Prop} (hgd : o.guard = none) (ty : TypeId) (x : Operand) (ho : o.op = .load ty x)
    (p : Addr) (hx : a.eval x = .pointer (some p)) (cs : Array Value) (d : TypeDesc) (hc : ∀ j v, cs[j]? = some v → w.cell? (p.add j) = some v)
    (hu : P.underlying ty = some d) (hd : (match d with | .struct _ | .array _ _ => true | _ => false) = true) (hi : (P.info? ty).map (·.size) = some cs.size)
    (h : wpList P ops Q rest (a.put o.dst (.agg cs)) w) : wpList P ops Q (o :: rest) a w :=
  wpList_plain hgd fun _ hK => by
    unfold Oper.wp execOp
    simp only [ho, hx, Instr.loadAt, Instr.sureAddr, Sem.run_bind, Sem.run_pure, Result.andThen_ok, run_loadVar_at w p ty cs d hc hu hd hi]
    exact hK _ _ h
theorem wpList_insert_in {H : Type} {ops : Array Oper} {rest : List Oper} {o : Oper} {a : Act} {w : World} {Q : Exit → Act → World → Prop} (hg : o.guard = none) (m x v : Operand) (t : TypeId) (hop : o.op = Op.insert t m x v)
    (k e : TypeId) (K : Keyed P k) (ht : P.underlying t = some (.map k e)) (R : Value → Option (DataW H × List MemPlace)) (b n : Nat) (D : DataW H)
    (hm : a.eval m = .map (some b)) (hown : w.ownsMap P k R b n D) (hn : n < maxLen) (key val : Value) (kl : Lit) (hx : a.eval x = key) (hv : a.eval v = val) (hkey : keyOf P k key = some kl)
    (d : DataW H) (ps : List MemPlace) (hval : R val = some (d, ps))
    (hK : ∀ w', w'.ownsMap P k R b (n + 1) (D.put kl d) → w.mapTurned w' b → wpList P ops Q rest (a.put o.dst undef) w') :
    wpList P ops Q (o :: rest) a w := by
  refine wpList_plain hg fun K' hK' => ?_
  obtain ⟨w', hrun, r1, r2⟩ := hown.store K ht hn hkey hval
  unfold Oper.wp
  simp [execOp, hop, hm, hx, hv, hrun, Result.andThen]
  exact hK' _ _ (hK w' r1 r2)
theorem wpList_buildOne {ops : Array Oper} {rest : List Oper} {o : Oper} {a : Act} {w : World} {Q : Exit → Act → World → Prop} (hg : o.guard = none) (t e : TypeId) (x : Operand) (ho : o.op = .buildSlice t 1 #[(0, x)])
    (cs : Array Value) (hx : a.eval x = .agg cs) (ie : TypeInfo) (z : Value) (hu : P.underlying t = some (.slice e)) (hie : P.info? e = some ie) (hz : ie.zero = some z) (hsz : ie.size = cs.size) (h0 : 0 < cs.size) (hsm : cs.size ≤ 2 ^ 24)
    (h : wpList P ops Q rest (a.put o.dst (.slice (some ⟨w.heap.size, 0, none⟩) 1 1)) (w.alloc (.cells cs e))) : wpList P ops Q (o :: rest) a w := by
  obtain ⟨r, hr, hrs, hrk⟩ := Great.fill_dense (s := cs.size) h0 [.agg cs] 0 ((Array.range (1 * ie.size)).map (z.cells[· % z.cells.size]!)) (fun v hv => by rw [List.mem_singleton.1 hv]; rfl) (by simp [hsz])
  have e : r = cs := by
    apply Array.ext
    · rw [hrs]; simp [hsz]
    · intro k h1 h2
      have := hrk k
      rw [if_pos ⟨by omega, by simp; exact h2⟩] at this
      rw [Array.getElem?_eq_getElem h1, Nat.div_eq_of_lt h2, Nat.mod_eq_of_lt h2] at this
      simpa [Value.cells, h2] using this
  subst e
  refine wpList_buildSlice hg t e 1 _ ho r ie z hu hie hz (by rw [hsz]; omega) (by rw [hsz]; omega) ?_ h
  rw [hsz] at hr ⊢
  rw [← hr]
  simp [hx]
end
end Go.Proofs.YtdgoilkgplnhfaaGreat
/-
  The states to which a first one leads, met breadth first, and what they make an automaton. Of no program: no condition.
-/
namespace Go.Proofs.YtdgoilkgplnhfaaGreat

/-- The state with a number. -/
def gS {S : Type} (z : S) (St : List S) (a : Nat) : S := St.getD a z
section
variable {S : Type} {z : S}
theorem gS_lt {St : List S} {a : Nat} (h : a < St.length) : gS z St a = St[a] := by unfold gS; simp [List.getD_eq_getElem?_getD, h]
theorem gS_left {St : List S} {x : S} {a : Nat} (h : a < St.length) : gS z (St ++ [x]) a = gS z St a := by unfold gS; simp [List.getD_eq_getElem?_getD, List.getElem?_append_left h]
theorem gS_last (St : List S) (x : S) : gS z (St ++ [x]) St.length = x := by unfold gS; simp [List.getD_eq_getElem?_getD]
end
/-- What has been met: i rows, j places of the next one. -/
structure ExS {S : Type} (z : S) (fo : S → Nat → S) (M : Nat) (St : List S) (NX : List Nat) (i j : Nat) : Prop where
  s0 : 0 < St.length ∧ gS z St 0 = z
  nd : ∀ a, a < St.length → ∀ b, b < St.length → gS z St a = gS z St b → a = b
  rch : ∀ a, a < St.length → ∃ u : List Nat, (∀ c ∈ u, c < M) ∧ u.foldl fo z = gS z St a
  len : NX.length = i * M + j
  jl : j ≤ M
  il : i ≤ St.length
  nxt : ∀ q, q < NX.length → gN NX q < St.length ∧ gS z St (gN NX q) = fo (gS z St (q / M)) (q % M)
section
variable {S : Type} {z : S} {fo : S → Nat → S} {M : Nat} {St : List S} {NX : List Nat} {i j : Nat}
theorem ExS.start : ExS z fo M [z] [] 0 0 := by
  refine ⟨⟨by simp, rfl⟩, fun a ha b hb _ => by simp at ha hb; omega, fun a ha => ⟨[], fun c hc => (List.not_mem_nil hc).elim, ?_⟩, by simp, by omega, by omega, fun q hq => by simp at hq⟩
  have : a = 0 := by simp at ha; omega
  subst this
  rfl
theorem ExS.old (h : ExS z fo M St NX i j) (hj : j < M) {v : Nat} (hv : v < St.length) (he : gS z St v = fo (gS z St i) j) : ExS z fo M St (NX ++ [v]) i (j + 1) := by
  have hl : (NX ++ [v]).length = NX.length + 1 := by simp
  have hd := div_at (i := i) hj
  rw [← h.len] at hd
  refine ⟨h.s0, h.nd, h.rch, by rw [hl, h.len]; omega, hj, h.il, fun q hq => ?_⟩
  by_cases h2 : q < NX.length
  · rw [gN_left h2]; exact h.nxt q h2
  · obtain rfl : q = NX.length := by omega
    rw [gN_last, hd.1, hd.2]; exact ⟨hv, he⟩
/-- A state that is met here first. -/
theorem ExS.add (h : ExS z fo M St NX i j) (hi : i < St.length) (hj : j < M) {x : S} (hne : ∀ a, a < St.length → gS z St a ≠ x) (he : x = fo (gS z St i) j) : ExS z fo M (St ++ [x]) NX i j := by
  have hls : (St ++ [x]).length = St.length + 1 := by simp
  have gl : ∀ a, a < St.length → gS z (St ++ [x]) a = gS z St a := fun a ha => gS_left ha
  have hrow : ∀ q, q < NX.length → q / M < St.length := fun q hq => by
    have : q / M ≤ i := by
      have h1 : q ≤ i * M + j := by have := h.len; omega
      have h2 := Nat.div_le_div_right (c := M) h1
      rw [(div_at (i := i) hj).1] at h2
      exact h2
    omega
  refine ⟨⟨by omega, by rw [gl 0 h.s0.1]; exact h.s0.2⟩, fun a ha b hb e => ?_, fun a ha => ?_, h.len, h.jl, by have := h.il; omega, fun q hq => ?_⟩
  · by_cases h1 : a < St.length
    · by_cases h2 : b < St.length
      · rw [gl a h1, gl b h2] at e; exact h.nd a h1 b h2 e
      · obtain rfl : b = St.length := by omega
        rw [gl a h1, gS_last] at e; exact absurd e (hne a h1)
    · obtain rfl : a = St.length := by omega
      by_cases h2 : b < St.length
      · rw [gl b h2, gS_last] at e; exact absurd e.symm (hne b h2)
      · omega
  · by_cases h1 : a < St.length
    · rw [gl a h1]; exact h.rch a h1
    · obtain rfl : a = St.length := by omega
      obtain ⟨u, h2, h3⟩ := h.rch i hi
      refine ⟨u ++ [j], fun c hc => ?_, ?_⟩
      · rcases List.mem_append.1 hc with hc | hc
        · exact h2 c hc
        · rw [List.mem_singleton.1 hc]; exact hj
      · rw [List.foldl_append, h3, gS_last, he]; rfl
  · obtain ⟨k1, k2⟩ := h.nxt q hq
    exact ⟨by omega, by rw [gl _ k1, gl _ (hrow q hq)]; exact k2⟩
theorem ExS.new (h : ExS z fo M St NX i j) (hi : i < St.length) (hj : j < M) {x : S} (hne : ∀ a, a < St.length → gS z St a ≠ x) (he : x = fo (gS z St i) j) : ExS z fo M (St ++ [x]) (NX ++ [St.length]) i (j + 1) :=
  (h.add hi hj hne he).old hj (by simp) (by rw [gS_last, gS_left hi, he])
theorem ExS.row (h : ExS z fo M St NX i j) (hi : i < St.length) (hj : ¬ j < M) : ExS z fo M St NX (i + 1) 0 := by
  have : j = M := by have := h.jl; omega
  refine ⟨h.s0, h.nd, h.rch, by rw [h.len, Nat.succ_mul, this]; omega, by omega, hi, h.nxt⟩
end
/-- All that is known when no state is left. -/
structure ExD {S : Type} (z : S) (fo : S → Nat → S) (M : Nat) (St : List S) (NX : List Nat) : Prop where
  s0 : 0 < St.length ∧ gS z St 0 = z
  nd : ∀ a, a < St.length → ∀ b, b < St.length → gS z St a = gS z St b → a = b
  rch : ∀ a, a < St.length → ∃ u : List Nat, (∀ c ∈ u, c < M) ∧ u.foldl fo z = gS z St a
  len : NX.length = St.length * M
  nxt : ∀ s, s < St.length → ∀ c, c < M → gN NX (s * M + c) < St.length ∧ gS z St (gN NX (s * M + c)) = fo (gS z St s) c
/-- More than 256 states. -/
def ExMany {S : Type} (z : S) (fo : S → Nat → S) (M : Nat) : Prop := ∃ St : List S, St.length = 257 ∧ (∀ a, a < St.length → ∀ b, b < St.length → gS z St a = gS z St b → a = b) ∧ ∀ a, a < St.length → ∃ u : List Nat, (∀ c ∈ u, c < M) ∧ u.foldl fo z = gS z St a
section
variable {S : Type} {z : S} {fo : S → Nat → S} {M : Nat} {St : List S} {NX : List Nat} {i j : Nat}
theorem ExS.done (h : ExS z fo M St NX i 0) (hi : ¬ i < St.length) : ExD z fo M St NX := by
  have e : i = St.length := by have := h.il; omega
  refine ⟨h.s0, h.nd, h.rch, by rw [h.len, e]; omega, fun s hs c hc => ?_⟩
  have hq : s * M + c < NX.length := by
    rw [h.len, e]
    have := at_lt hs hc
    omega
  have := h.nxt _ hq
  rw [(div_at (i := s) hc).1, (div_at (i := s) hc).2] at this
  exact this
theorem ExS.many (h : ExS z fo M St NX i j) (hl : St.length = 257) : ExMany z fo M := ⟨St, hl, h.nd, h.rch⟩
end
section
variable {S : Type} {z : S} {fo : S → Nat → S} {M : Nat} {St : List S} {NX OU : List Nat} {bs : By}
/-- Where a text leads. -/
theorem ExD.run (h : ExD z fo M St NX) (hM : 0 < M) (ho : OU.length = St.length) (hb : ∀ b, b < 256 → (bs.getD b 0).toNat < M) : ∀ {t : List Nat} {s : Nat}, s < St.length → Txt t → (dfA bs NX OU).run s t < St.length ∧ gS z St ((dfA bs NX OU).run s t) = t.foldl (fun x b => fo x (bs.getD b 0).toNat) (gS z St s)
  | [], s, hs, _ => ⟨hs, rfl⟩
  | b :: t, s, hs, ht => by
    have hW : NX.length / OU.length = M := by rw [h.len, ho, Nat.mul_comm]; exact Nat.mul_div_cancel _ h.s0.1
    obtain ⟨k1, k2⟩ := h.nxt s hs _ (hb b ht.tail.1)
    have e : (dfA bs NX OU).step s b = gN NX (s * M + (bs.getD b 0).toNat) := by
      show gN NX (s * (NX.length / OU.length) + (bs.getD b 0).toNat) = _
      rw [hW]
    have := ExD.run h hM ho hb (t := t) (s := (dfA bs NX OU).step s b) (by rw [e]; exact k1) ht.tail.2
    rw [DF.run_cons]
    refine ⟨this.1, ?_⟩
    rw [this.2, e, k2]
    rfl
theorem ExD.may (h : ExD z fo M St NX) (hM : 0 < M) (hM2 : M ≤ 256) (ho : OU.length = St.length) (hn : St.length ≤ 65536) (hbl : bs.length = 256) (hb : ∀ b, b < 256 → (bs.getD b 0).toNat < M) (hlb : ∀ x ∈ OU, x ≤ 65535) : MayA bs NX OU := by
  have hW : NX.length / OU.length = M := by rw [h.len, ho, Nat.mul_comm]; exact Nat.mul_div_cancel _ h.s0.1
  refine ⟨hbl, by rw [ho]; exact h.s0.1, by rw [ho]; exact hn, by rw [hW, ho, h.len], by rw [hW]; exact hb, by rw [hW]; exact hM2, fun x hx => ?_, hlb⟩
  obtain ⟨q, hq, rfl⟩ := List.getElem_of_mem hx
  have h0 : q / M < St.length := by
    have := h.len
    exact Nat.div_lt_of_lt_mul (by rw [Nat.mul_comm]; omega)
  have := (h.nxt (q / M) h0 (q % M) (Nat.mod_lt _ hM)).1
  rw [Nat.mul_comm, Nat.div_add_mod, gN_lt hq] at this
  rw [ho]
  exact this
end
end Go.Proofs.YtdgoilkgplnhfaaGreat
/-
  States met, in memory: a map from states to places, a row of states, a row of places. Of the program its types alone: no condition.
-/
namespace Go.Proofs.YtdgoilkgplnhfaaGreat
open Go.RowKit Go.Lib Go.Maps

/-- The cells of some states. -/
def oC {S : Type} (val : S → Array Value) (St : List S) : List Value := St.flatMap fun s => (val s).toList
section
variable {S : Type} {val : S → Array Value}
theorem oC_snoc (St : List S) (x : S) : oC val (St ++ [x]) = oC val St ++ (val x).toList := by simp [oC]
theorem oC_get {K : Nat} : ∀ (St : List S), (∀ s ∈ St, (val s).size = K) → ∀ i (h : i < St.length) j (_ : j < K), (oC val St)[i * K + j]? = (val St[i])[j]?
  | [], _, i, h, _, _ => by simp at h
  | s :: St, hs, 0, _, j, hj => by
    have h0 := hs s List.mem_cons_self
    unfold oC
    rw [List.flatMap_cons, Nat.zero_mul, Nat.zero_add, List.getElem?_append_left (by rw [Array.length_toList, h0]; exact hj)]
    simp
  | s :: St, hs, i + 1, h, j, hj => by
    have h0 := hs s List.mem_cons_self
    have ih := oC_get St (fun t ht => hs t (List.mem_cons_of_mem _ ht)) i (by simp at h; omega) j hj
    unfold oC at ih ⊢
    rw [List.flatMap_cons, Nat.succ_mul, List.getElem?_append_right (by rw [Array.length_toList, h0]; omega), Array.length_toList, h0, show i * K + K + j - K = i * K + j by omega, ih]
    rfl
theorem oC_len {K : Nat} : ∀ (St : List S), (∀ s ∈ St, (val s).size = K) → (oC val St).length = St.length * K
  | [], _ => by simp [oC]
  | s :: St, hs => by
    have ih := oC_len St (fun t ht => hs t (List.mem_cons_of_mem _ ht))
    unfold oC at ih ⊢
    rw [List.flatMap_cons, List.length_append, ih, Array.length_toList, hs s List.mem_cons_self, List.length_cons, Nat.succ_mul]
    omega
/-- What lies in memory. -/
structure XM (T K : Nat) {S : Type} (val : S → Array Value) (w0 : World) (mb : Nat) (ks : List Lit) (sv xv : Value) (St : List S) (NX : List Nat) (w : World) : Prop where
  map : MpAt T w mb ks
  o1 : w.ownsRow w0.heap.size T K sv St.length (oC val St)
  o2 : OwnN w w0.heap.size xv NX
  ap : ∀ b, sv.ownBlock = some b → ¬ xv.ownBlock = some b
  mge : w0.heap.size ≤ mb
  bel : Below w0.heap.size w0 w
variable {T K : Nat} {w0 w w' : World} {mb : Nat} {ks : List Lit} {sv xv v' : Value} {St : List S} {NX : List Nat}
theorem XM.below (h : XM T K val w0 mb ks sv xv St NX w) (x : Below w.heap.size w w') : XM T K val w0 mb ks sv xv St NX w' :=
  ⟨h.map.below x, own_below h.o1 x, own_below h.o2 x, h.ap, h.mge, bt h.bel x (Nat.le_refl _)⟩
theorem XM.put (h : XM T K val w0 mb ks sv xv St NX w) {kl : Lit} {D : DataW Unit} (hm : kl ∉ ks) (hk : WideAt.IsKeyLit kl) (hh : ∀ kl, Maps.has D kl = true ↔ kl ∈ ks) (ha : ∀ i (h : i < ks.length), D.atKey ks[i] (.lit (.int .i64 0)) = .lit (.int .i64 (i : Int)))
    (ho : w.ownsMap Tryz.prog T (plainElem Tryz.prog 3) mb ks.length D) (h1 : w'.ownsMap Tryz.prog T (plainElem Tryz.prog 3) mb (ks.length + 1) (D.put kl (.lit (.int .i64 (ks.length : Int))))) (t4 : w.mapTurned w' mb) : XM T K val w0 mb (ks ++ [kl]) sv xv St NX w' := by
  have k4 : Kept (fun b => b = mb) w w' := (kept_of_grown t4.grown).mono (fun b hb => by injection hb with hb; exact hb.symm)
  exact ⟨MpAt.put hk hm ho.isMap hh ha h1, own_kept h.o1 k4 (fun b hb e => own_ne_map h.map h.o1 (by rw [← e]; exact hb)), own_kept h.o2 k4 (fun b hb e => own_ne_map h.map h.o2 (by rw [← e]; exact hb)), h.ap, h.mge, h.bel.trans (k4.below h.bel.size (fun i hi => by have := h.mge; omega))⟩
theorem app_keptX {w w6 : World} {v v' : Value} (g2 : AppAt w w6 v v') : ∃ F : Nat → Prop, Kept F w w6 ∧ (∀ b, F b → v.ownBlock = some b) := by
  rcases g2 with ⟨q, a, b, c⟩ | ⟨a, b⟩
  · exact ⟨fun b => some q = some b, kept_of_grown c, fun b hb => a.trans hb⟩
  · exact ⟨fun _ => False, Kept.of_below (below_of_grown a), fun b hb => hb.elim⟩
theorem app_apart {w w6 : World} {v v' u : Value} {base e size n : Nat} {xs : List Value} (g2 : AppAt w w6 v v') (hu : w.ownsRow base e size u n xs) (hap : ∀ b, v.ownBlock = some b → ¬ u.ownBlock = some b) : ∀ b, v'.ownBlock = some b → ¬ u.ownBlock = some b := fun b hb hv => by
  rcases g2 with ⟨q, a, c, _⟩ | ⟨_, c⟩
  · exact hap b (by rw [a, ← c]; exact hb) hv
  · have h1 := c b hb
    have h2 := (World.ownsRow.lt hu b hv).2
    omega
theorem XM.appS (h : XM T K val w0 mb ks sv xv St NX w) (x : S) (g1 : w'.ownsRow w0.heap.size T K v' (St.length + 1) (oC val St ++ (val x).toList)) (g2 : AppAt w w' sv v') : XM T K val w0 mb ks v' xv (St ++ [x]) NX w' := by
  obtain ⟨F, k6, hF⟩ := app_keptX g2
  refine ⟨h.map.kept k6 (fun hf => own_ne_map h.map h.o1 (hF _ hf)), ?_, own_kept h.o2 k6 (fun b hb hf => h.ap b (hF b hf) hb), app_apart g2 h.o2 h.ap, h.mge, h.bel.trans (k6.below h.bel.size (fun i hf => (World.ownsRow.lt h.o1 i (hF i hf)).1))⟩
  rw [oC_snoc, List.length_append, List.length_singleton]
  exact g1
theorem XM.appX (h : XM T K val w0 mb ks sv xv St NX w) (n : Nat) (g1 : w'.ownsRow w0.heap.size 3 1 v' (NX.length + 1) (nCells NX ++ [.int .i64 (n : Nat)])) (g2 : AppAt w w' xv v') : XM T K val w0 mb ks sv v' St (NX ++ [n]) w' := by
  obtain ⟨F, k6, hF⟩ := app_keptX g2
  have o2 : w.ownsRow w0.heap.size 3 1 xv NX.length (nCells NX) := h.o2
  refine ⟨h.map.kept k6 (fun hf => own_ne_map h.map o2 (hF _ hf)), own_kept h.o1 k6 (fun b hb hf => h.ap b hb (hF b hf)), ?_, fun b hb hv => app_apart g2 h.o1 (fun b hb hv => h.ap b hv hb) b hv hb, h.mge, h.bel.trans (k6.below h.bel.size (fun i hf => (World.ownsRow.lt o2 i (hF i hf)).1))⟩
  unfold OwnN
  rw [nCells_snoc, List.length_append, List.length_singleton]
  exact g1
/-- A state, as it lies in its row. -/
theorem XM.cells (h : XM T K val w0 mb ks sv xv St NX w) (hs : ∀ s ∈ St, (val s).size = K) {i : Nat} (hi : i < St.length) : ∃ g cap, sv = .slice (some ⟨g, 0, none⟩) St.length cap ∧ ∀ j v, (val St[i])[j]? = some v → w.cell? ((⟨g, i * K, none⟩ : Addr).add j) = some v := by
  rcases h.o1.2 with ⟨_, e1⟩ | ⟨g, cap, cur, e1, hb, hg, hnc, hcm, hcs, htake⟩
  · omega
  · refine ⟨g, cap, e1, fun j v hv => ?_⟩
    have hj : j < K := by
      have h1 := hs _ (List.getElem_mem hi)
      apply Nat.lt_of_not_le
      intro hle
      rw [Array.getElem?_eq_none (by rw [h1]; exact hle)] at hv
      cases hv
    have h2 := oC_get St hs i hi j hj
    rw [hv, ← htake, List.getElem?_take, if_pos (at_lt hi hj)] at h2
    have e2 : (⟨g, i * K, none⟩ : Addr).add j = ⟨g, i * K + j, none⟩ := by unfold Addr.add; split <;> simp_all
    rw [e2, cell_of_row _ _ _ _ _ _ hg]
    simpa using h2
end
end Go.Proofs.YtdgoilkgplnhfaaGreat
