/-
  The states to which a first one leads, met breadth first, and what they make an automaton. Of no program: no condition.
-/
import Derived.Test.YtdgoilkgplnhfaaGreatC11
import Derived.Great.BuildSlice
set_option maxRecDepth 100000
set_option maxHeartbeats 16000000
namespace Go.Proofs.YtdgoilkgplnhfaaGreat
def gS {S : Type} (z : S) (St : List S) (a : Nat) : S := St.getD a z
section
variable {S : Type} {z : S}
theorem gS_lt {St : List S} {a : Nat} (h : a < St.length) : gS z St a = St[a] := by unfold gS; simp [List.getD_eq_getElem?_getD, h]
theorem gS_left {St : List S} {x : S} {a : Nat} (h : a < St.length) : gS z (St ++ [x]) a = gS z St a := by unfold gS; simp [List.getD_eq_getElem?_getD, List.getElem?_append_left h]
theorem gS_last (St : List S) (x : S) : gS z (St ++ [x]) St.length = x := by unfold gS; simp [List.getD_eq_getElem?_getD]
end
structure ExS {S : Type} (z : S) (fo : S → Nat → S) (M : Nat) (St : List S) (NX : List Nat) (i j : Nat) : Prop where
 s0 : 0 < St.length ∧ gS z St 0 = z
 nd : ∀ a, a < St.length → ∀ b, b < St.length → gS z St a = gS z St b → a = b
 rch : ∀ a, a < St.length → ∃ u : List Nat, (∀ c ∈ u, c < M) ∧ u.foldl fo z = gS z St a
 len : NX.length = i * M + j
 jl : j ≤ M
 il : i ≤ St.length
 nxt : ∀ q, q < NX.length → gN NX q < St.length ∧ gS z St (gN NX q) = fo (gS z St (q / M)) (q % M)
section
variable {S : Type} {z : S} {fo : S → Nat → S} {M : Nat} {St : List S} {NX : List Nat} {i j : Nat}
theorem ExS.start : ExS z fo M [z] [] 0 0 := by
 refine ⟨⟨by simp, rfl⟩, fun a ha b hb _ => by simp at ha hb; omega, fun a ha => ⟨[], fun c hc => (List.not_mem_nil hc).elim, ?_⟩, by simp, by omega, by omega, fun q hq => by simp at hq⟩
 have : a = 0 := by simp at ha; omega
 subst this
 rfl
theorem ExS.old (h : ExS z fo M St NX i j) (hj : j < M) {v : Nat} (hv : v < St.length) (he : gS z St v = fo (gS z St i) j) : ExS z fo M St (NX ++ [v]) i (j + 1) := by
 have hl : (NX ++ [v]).length = NX.length + 1 := by simp
 have hd := div_at (i := i) hj
 rw [← h.len] at hd
 refine ⟨h.s0, h.nd, h.rch, by rw [hl, h.len]; omega, hj, h.il, fun q hq => ?_⟩
 by_cases h2 : q < NX.length
 · rw [gN_left h2]; exact h.nxt q h2
 · obtain rfl : q = NX.length := by omega
   rw [gN_last, hd.1, hd.2]; exact ⟨hv, he⟩
theorem ExS.add (h : ExS z fo M St NX i j) (hi : i < St.length) (hj : j < M) {x : S} (hne : ∀ a, a < St.length → gS z St a ≠ x) (he : x = fo (gS z St i) j) : ExS z fo M (St ++ [x]) NX i j := by
 have hls : (St ++ [x]).length = St.length + 1 := by simp
 have gl : ∀ a, a < St.length → gS z (St ++ [x]) a = gS z St a := fun a ha => gS_left ha
 have hrow : ∀ q, q < NX.length → q / M < St.length := fun q hq => by
  have : q / M ≤ i := by
   have h1 : q ≤ i * M + j := by have := h.len; omega
   have h2 := Nat.div_le_div_right (c := M) h1
   rw [(div_at (i := i) hj).1] at h2
   exact h2
  omega
 refine ⟨⟨by omega, by rw [gl 0 h.s0.1]; exact h.s0.2⟩, fun a ha b hb e => ?_, fun a ha => ?_, h.len, h.jl, by have := h.il; omega, fun q hq => ?_⟩
 · by_cases h1 : a < St.length
   · by_cases h2 : b < St.length
     · rw [gl a h1, gl b h2] at e; exact h.nd a h1 b h2 e
     · obtain rfl : b = St.length := by omega
       rw [gl a h1, gS_last] at e; exact absurd e (hne a h1)
   · obtain rfl : a = St.length := by omega
     by_cases h2 : b < St.length
     · rw [gl b h2, gS_last] at e; exact absurd e.symm (hne b h2)
     · omega
 · by_cases h1 : a < St.length
   · rw [gl a h1]; exact h.rch a h1
   · obtain rfl : a = St.length := by omega
     obtain ⟨u, h2, h3⟩ := h.rch i hi
     refine ⟨u ++ [j], fun c hc => ?_, ?_⟩
     · rcases List.mem_append.1 hc with hc | hc
       · exact h2 c hc
       · rw [List.mem_singleton.1 hc]; exact hj
     · rw [List.foldl_append, h3, gS_last, he]; rfl
 · obtain ⟨k1, k2⟩ := h.nxt q hq
   exact ⟨by omega, by rw [gl _ k1, gl _ (hrow q hq)]; exact k2⟩
theorem ExS.new (h : ExS z fo M St NX i j) (hi : i < St.length) (hj : j < M) {x : S} (hne : ∀ a, a < St.length → gS z St a ≠ x) (he : x = fo (gS z St i) j) : ExS z fo M (St ++ [x]) (NX ++ [St.length]) i (j + 1) :=
 (h.add hi hj hne he).old hj (by simp) (by rw [gS_last, gS_left hi, he])
theorem ExS.row (h : ExS z fo M St NX i j) (hi : i < St.length) (hj : ¬ j < M) : ExS z fo M St NX (i + 1) 0 := by
 have : j = M := by have := h.jl; omega
 refine ⟨h.s0, h.nd, h.rch, by rw [h.len, Nat.succ_mul, this]; omega, by omega, hi, h.nxt⟩
end
structure ExD {S : Type} (z : S) (fo : S → Nat → S) (M : Nat) (St : List S) (NX : List Nat) : Prop where
 s0 : 0 < St.length ∧ gS z St 0 = z
 nd : ∀ a, a < St.length → ∀ b, b < St.length → gS z St a = gS z St b → a = b
 rch : ∀ a, a < St.length → ∃ u : List Nat, (∀ c ∈ u, c < M) ∧ u.foldl fo z = gS z St a
 len : NX.length = St.length * M
 nxt : ∀ s, s < St.length → ∀ c, c < M → gN NX (s * M + c) < St.length ∧ gS z St (gN NX (s * M + c)) = fo (gS z St s) c
def ExMany {S : Type} (z : S) (fo : S → Nat → S) (M : Nat) : Prop := ∃ St : List S, St.length = 257 ∧ (∀ a, a < St.length → ∀ b, b < St.length → gS z St a = gS z St b → a = b) ∧ ∀ a, a < St.length → ∃ u : List Nat, (∀ c ∈ u, c < M) ∧ u.foldl fo z = gS z St a
section
variable {S : Type} {z : S} {fo : S → Nat → S} {M : Nat} {St : List S} {NX : List Nat} {i j : Nat}
theorem ExS.done (h : ExS z fo M St NX i 0) (hi : ¬ i < St.length) : ExD z fo M St NX := by
 have e : i = St.length := by have := h.il; omega
 refine ⟨h.s0, h.nd, h.rch, by rw [h.len, e]; omega, fun s hs c hc => ?_⟩
 have hq : s * M + c < NX.length := by
  rw [h.len, e]
  have := at_lt hs hc
  omega
 have := h.nxt _ hq
 rw [(div_at (i := s) hc).1, (div_at (i := s) hc).2] at this
 exact this
theorem ExS.many (h : ExS z fo M St NX i j) (hl : St.length = 257) : ExMany z fo M := ⟨St, hl, h.nd, h.rch⟩
end
section
variable {S : Type} {z : S} {fo : S → Nat → S} {M : Nat} {St : List S} {NX OU : List Nat} {bs : By}
theorem ExD.run (h : ExD z fo M St NX) (hM : 0 < M) (ho : OU.length = St.length) (hb : ∀ b, b < 256 → (bs.getD b 0).toNat < M) : ∀ {t : List Nat} {s : Nat}, s < St.length → Txt t → (dfA bs NX OU).run s t < St.length ∧ gS z St ((dfA bs NX OU).run s t) = t.foldl (fun x b => fo x (bs.getD b 0).toNat) (gS z St s)
 | [], s, hs, _ => ⟨hs, rfl⟩
 | b :: t, s, hs, ht => by
   have hW : NX.length / OU.length = M := by rw [h.len, ho, Nat.mul_comm]; exact Nat.mul_div_cancel _ h.s0.1
   obtain ⟨k1, k2⟩ := h.nxt s hs _ (hb b ht.tail.1)
   have e : (dfA bs NX OU).step s b = gN NX (s * M + (bs.getD b 0).toNat) := by
    show gN NX (s * (NX.length / OU.length) + (bs.getD b 0).toNat) = _
    rw [hW]
   have := ExD.run h hM ho hb (t := t) (s := (dfA bs NX OU).step s b) (by rw [e]; exact k1) ht.tail.2
   rw [DF.run_cons]
   refine ⟨this.1, ?_⟩
   rw [this.2, e, k2]
   rfl
theorem ExD.may (h : ExD z fo M St NX) (hM : 0 < M) (hM2 : M ≤ 256) (ho : OU.length = St.length) (hn : St.length ≤ 65536) (hbl : bs.length = 256) (hb : ∀ b, b < 256 → (bs.getD b 0).toNat < M) (hlb : ∀ x ∈ OU, x ≤ 65535) : MayA bs NX OU := by
 have hW : NX.length / OU.length = M := by rw [h.len, ho, Nat.mul_comm]; exact Nat.mul_div_cancel _ h.s0.1
 refine ⟨hbl, by rw [ho]; exact h.s0.1, by rw [ho]; exact hn, by rw [hW, ho, h.len], by rw [hW]; exact hb, by rw [hW]; exact hM2, fun x hx => ?_, hlb⟩
 obtain ⟨q, hq, rfl⟩ := List.getElem_of_mem hx
 have h0 : q / M < St.length := by
  have := h.len
  exact Nat.div_lt_of_lt_mul (by rw [Nat.mul_comm]; omega)
 have := (h.nxt (q / M) h0 (q % M) (Nat.mod_lt _ hM)).1
 rw [Nat.mul_comm, Nat.div_add_mod, gN_lt hq] at this
 rw [ho]
 exact this
end
end Go.Proofs.YtdgoilkgplnhfaaGreat
namespace Go.Proofs.YtdgoilkgplnhfaaGreat
open Go.RowKit Go.Lib Go.Maps
theorem cells73 : Tryz.prog.cellsOf 73 = 64 ∧ Tryz.prog.cellsOf 71 = 64 ∧ Tryz.prog.cellsOf 4 = 1 := ⟨by kernel_rfl, by kernel_rfl, by kernel_rfl⟩
theorem ktype73 : Tryz.prog.keyType 73 = true := by kernel_rfl
theorem bool_key (b : Bool) (d : Nat) : Tryz.prog.keyLits (d + 1) 4 [.bool b] = some [.bool b] := by
 unfold Program.keyLits
 simp only [Tryz.underlying4]
theorem keyOf_taking (B : List Bool) (hl : B.length = 64) : ∃ l, keyOf Tryz.prog 73 (.agg (B.map fun (b : Bool) => Value.bool b).toArray) = some l := by
 obtain ⟨c1, c2, c3⟩ := cells73
 have hlits : ∃ ls, Tryz.prog.keyLits (Tryz.prog.types.size + 1) 73 (B.map fun (b : Bool) => Value.bool b) = some ls := by
  rw [size_types]
  unfold Program.keyLits
  simp only [Tryz.underlying73]
  have hlen : (B.map fun (b : Bool) => Value.bool b).length = 64 := by rw [List.length_map, hl]
  rw [if_pos ⟨by rw [hlen, c1], by first | (simp; done) | kernel_rfl⟩]
  have h71 : ∃ ls, Tryz.prog.keyLits 253 71 (B.map fun (b : Bool) => Value.bool b) = some ls := by
   unfold Program.keyLits
   simp only [Tryz.underlying71]
   rw [if_pos (by rw [hlen, c2]), mapM_some _ (fun i => [Lit.bool (B.getD i false)]) (List.range 64) (fun i hi => ?_)]
   · exact ⟨_, rfl⟩
   · have hi' : i < B.length := by rw [hl]; exact List.mem_range.1 hi
     have e : ((B.map fun (b : Bool) => Value.bool b).drop (i * Tryz.prog.cellsOf 4)).take (Tryz.prog.cellsOf 4) = [.bool (B.getD i false)] := by
      rw [c3, Nat.mul_one, List.drop_eq_getElem_cons (by rw [List.length_map]; exact hi')]
      simp [List.getD_eq_getElem?_getD, hi']
     rw [e]
     exact bool_key _ 251
  obtain ⟨ls, hls⟩ := h71
  have e : ((B.map fun (b : Bool) => Value.bool b).drop 0).take (Tryz.prog.cellsOf 71) = B.map fun (b : Bool) => Value.bool b := by
   rw [List.drop_zero, c2, List.take_of_length_le (by rw [hlen]; exact Nat.le_refl _)]
  simp only [List.mapM_cons, List.mapM_nil, e, hls]
  exact ⟨_, rfl⟩
 obtain ⟨ls, hls⟩ := hlits
 unfold keyOf
 simp only [Tryz.underlying73]
 rw [if_pos (by
  rw [ktype73]
  simp [Value.formed, Tryz.underlying73, c1, hl])]
 have e : (Value.agg (B.map fun (b : Bool) => Value.bool b).toArray).cells.toList = B.map fun (b : Bool) => Value.bool b := by simp [Value.cells]
 rw [e, hls]
 exact ⟨_, rfl⟩
theorem keyed73 : Keyed Tryz.prog 73 := Keyed.of_law (deep_law_laid (m := 254) (by kernel_rfl) (by decide) (by rw [size_types]; decide) (by kernel_rfl) (by simp [Tryz.underlying73]))
theorem Tryz.info73 : (Tryz.prog.info? 73).map (fun i => (i.zero, i.size)) = some (some (.agg (Array.replicate 64 (Value.bool false))), 64) := by kernel_rfl
theorem numT_any (N : Nat) (c0 : Value) (look : Nat → Array Value) (lit : Nat → Lit) (w : World) (hN : N ≤ 4294967296) (hk : ∀ i, i < N → keyOf Tryz.prog 73 (.agg (look i)) = some (lit i)) (hls : ∀ i, i < N → (look i).size = 64) (hla : ∀ i, i < N → (look i).all (·.oneCell') = true) (hkl : ∀ i, i < N → WideAt.IsKeyLit (lit i))
 (hc : ∀ i, i < N → ∀ W, Below w.heap.size w W → Calls Tryz.prog 43 #[.int .i64 (i : Nat), c0] W fun e w' => e = .returned (.agg (look i)) ∧ Below W.heap.size W w') :
 Calls Tryz.prog 42 #[.int .i64 (N : Nat), .func (.func 43) #[] #[c0]] w fun e w' => (∃ v1 v2, e = .returned (.tuple #[v1, v2]) ∧ ∃ num fst, NmDone w.heap.size lit N v1 v2 num fst w') ∧ Below w.heap.size w w' := by
 obtain ⟨i3, hi3, hz30, hz31, hz32⟩ := info_parts Tryz.info3n
 have hz0 : ∀ W, (zeroValue 3).run Tryz.prog W = .ok (.int .i64 0) W := fun W => Tryz.zeroValue3 W
 have hmm : ∀ W : World, (Instr.makeMap 133 none).run Tryz.prog W = .ok (.map (some W.heap.size)) (W.alloc (.map #[] 0)) := fun W => rfl
 have HC := hide hc
 have HK := hide hk
 have HKL := hide hkl
 have HLS := hide hls
 have HLA := hide hla
 obtain ⟨hzv, hsz⟩ := zero_of_info Tryz.info73
 obtain ⟨z, hz⟩ : ∃ z, z = (Array.replicate 64 (Value.bool false)) := ⟨_, rfl⟩
 have hzs : z.size = 64 := by rw [hz]; simp
 rw [← hz] at hzv
 have HZS := hide hzs
 have HSZ := hide hsz
 clear hz hzs hsz hls hla
 clear hc hk hkl
 have S0 := hide (fun w2 h1 h2 => NmS.start 73 w lit N w2 h1 h2)
 go_enter Tryz.func42, Tryz.ntmps42
 go_wp2_with (at_make; refine wpList_make_full _ rfl (.tmp 12) (.tmp 12) 22 rfl w.heap.size 3 i3 (.int .i64 0) 1 Tryz.underlying22 hi3 hz30 hz31 .i64 .i64 _ _ N rfl rfl rfl rfl (by rw [hz32]; omega) (by unfold maxLen; omega) (by simp) ?_; intro w2 h1 h2; have S1 := hide (S0.out w2 h1 h2); clear h1 h2)
 go_loopg [5, 15] (N + 1) (fun g v2 x wr => ∃ (num fst : List Nat), x = .int .i64 (num.length : Nat) ∧ Hid (NmS 73 w lit N w.heap.size (.slice (some ⟨w.heap.size + 1, 0, none⟩) N N) v2 num fst wr) ∧ N - num.length < g)
 case atStart => exact ⟨[], [], rfl, S1, by simp⟩
 case round =>
  obtain ⟨num, fst, rfl, S, hg⟩ := hrel
  have HG := hide hg
  clear hg S1 S0
  have hle := S.out.le
  obtain ⟨a2, k2, hv2, _⟩ := own_shape S.out.o2
  subst hv2
  by_cases hi : num.length < N
  · have hi' : (num.length : Int) < (N : Int) := by omega
    have H1 := hide (HC.out num.length hi wr S.out.bel)
    go_wp2_with (fail)
    refine H1.out.mono ?_
    rintro e w3 ⟨rfl, x3⟩
    clear H1
    obtain ⟨m, hmm2⟩ : ∃ m, m = look num.length := ⟨_, rfl⟩
    have HI : Hid ((Tryz.prog.info? 73).map (·.size) = some m.size) := by unfold Hid; rw [HSZ.out, hmm2, HLS.out _ hi]
    have HZ2 : Hid (z.size = m.size) := by unfold Hid; rw [HZS.out, hmm2, HLS.out _ hi]
    have HAL : Hid (m.all (·.oneCell') = true) := by unfold Hid; rw [hmm2]; exact HLA.out _ hi
    have HK0 := HK.out num.length hi
    rw [← hmm2] at HK0 ⊢
    have HBZ := hide (heap_alloc_new w3 (.cells z 73))
    have HBM := heap_alloc_new w3 (.cells m 73)
    have y3 : Below w3.heap.size w3 (w3.alloc (.cells m 73)) := al (Below.refl _ _) _
    have S4 := S.out.below (bt x3 y3 (Nat.le_refl _))
    have bb3 : ∃ bb, bb = w3.heap.size := ⟨_, rfl⟩
    clear hmm2 x3 y3
    go_upto_region 7 with (refine wpList_store_row rfl 73 (.tmp 8) (.tmp 20) rfl w3.heap.size m rfl rfl 73 z HBZ.out HI.out HZ2.out HAL.out ?_; rw [World.setRow_alloc_new])
    generalize w3.alloc (.cells m 73) = w5 at *
    obtain ⟨bb, hbb⟩ := bb3
    rw [← hbb] at HBM ⊢
    clear hbb HBZ
    have HBM := hide HBM
    rename World => w3
    have S3 := hide S4
    clear S4
    obtain ⟨D, hown, hh, ha⟩ := S3.out.map
    have HK1 := hide HK0
    clear HK0
    have HOWN := hide hown
    have HA := hide ha
    have hfl : fst.length ≤ num.length := by
     have h := S3.out.nf
     exact pigeon num.length fst.length (gN fst) h.fstlt (fun i h1 j h2 e => by rw [← h.numfst i h1, ← h.numfst j h2, e])
    by_cases hm : lit num.length ∈ fst.map lit
    · have hhas : Maps.has D (lit num.length) = true := (hh _).2 hm
      have HHIT : Hid (∀ c : Int, D.atKey (lit num.length) (.lit (.int .i64 0)) = .lit (.int .i64 c) → ∃ n, n < fst.length ∧ lit (gN fst n) = lit num.length ∧ c = (n : Int)) := fun c hc => by
       obtain ⟨n, hn, e, rfl⟩ := atKey_lit HA.out hc hm
       rw [List.length_map] at hn
       refine ⟨n, hn, ?_, rfl⟩
       rw [← e, List.getElem_map, gN_lt hn]
      obtain ⟨⟨u1, q1⟩, q2⟩ := S3.out.slot hi
      have HST := hide (fun n hn he => S3.out.hit (n := n) hi hn he)
      go_wp2_with (first | (refine wpList_load_row rfl 73 (.tmp 8) rfl bb rfl 73 m (0, 0) _ HBM.out Tryz.underlying73 rfl HI.out ?_) | (at_lookup; refine wpList_lookup_own_ok_int _ rfl _ _ 133 rfl 73 3 .i64 keyed73 Tryz.underlying133 Tryz.underlying3 (hz0 _) w.heap.size _ D rfl HOWN.out _ _ rfl HK1.out ?_; intro c hat hwc; obtain ⟨n, hn, hne, rfl⟩ := HHIT.out c hat; have S4 := hide (HST.out n hn hne); clear hat hwc hn hne))
      go_roundg (N - (num.length + 1) + 1)
      case measure => have := HG.out; omega
      case rel => exact ⟨num ++ [n], fst, by simp, S4, by simp⟩
    · have hhas : Maps.has D (lit num.length) = false := by
       cases hx : Maps.has D (lit num.length) with
       | false => rfl
       | true => exact absurd ((hh _).1 hx) hm
      have HPL : Hid (plainElem (H := Unit) Tryz.prog 3 (.int .i64 (fst.length : Int)) = some (.lit (.int .i64 (fst.length : Int)), [])) := plainElem_int Tryz.underlying3 (by simp [Lit.wf, IntKind.min, IntKind.max, IntKind.signed, IntKind.bits]; omega)
      have HFN : Hid ((fst.map lit).length < maxLen) := by unfold Hid maxLen; rw [List.length_map]; omega
      have HPUT := hide (fun (w4 : World) h1 (t4 : w3.mapTurned w4 w.heap.size) => S3.out.put (w' := w4) hm (HKL.out _ hi) hh ha HOWN.out h1 t4)
      go_wp2_with (first
       | (refine wpList_load_row rfl 73 (.tmp 8) rfl bb rfl 73 m (0, 0) _ HBM.out Tryz.underlying73 rfl HI.out ?_)
       | (at_lookup; refine wpList_lookup_own_ok_int _ rfl _ _ 133 rfl 73 3 .i64 keyed73 Tryz.underlying133 Tryz.underlying3 (hz0 _) w.heap.size _ D rfl HOWN.out _ _ rfl HK1.out ?_; intro c hat hwc; clear hat hwc)
       | (at_mapUpdate; refine wpList_mapUpdate_in _ rfl _ _ _ 133 rfl 73 3 keyed73 Tryz.underlying133 _ w.heap.size _ D rfl HOWN.out HFN.out _ _ _ rfl rfl HK1.out _ [] HPL.out ?_; intro w4 h4 t4; have S4 := hide (HPUT.out w4 h4 t4); have O5 := hide S4.out.o5; have HN5 := hide (one_int w4 num.length 3); have HS5 : Hid (w.heap.size ≤ (w4.alloc (.cells #[.int .i64 (num.length : Nat)] 3)).heap.size) := S4.out.s5; clear h4 t4)
       | (at_builtin; refine wpList_append_view rfl (.tmp 34) (.tmp 36) 22 rfl w.heap.size 3 i3 (.int .i64 0) 1 8 Tryz.underlying22 hi3 hz30 hz31 hz32 rfl (by decide) _ fst.length (nCells fst) rfl O5.out ⟨w4.heap.size, 0, none⟩ 1 1 [.int .i64 (num.length : Nat)] rfl rfl HN5.out (by simp [Value.oneCell']) (by decide) (by unfold maxLen; omega) (by omega) HS5.out ?_; intro v6 w6 g1 g2; obtain ⟨⟨⟨u6, q1⟩, q2⟩, S6⟩ := S4.out.app hi g1 g2; have S6 := hide S6; clear g1 g2))
      go_roundg (N - (num.length + 1) + 1)
      case measure => have := HG.out; omega
      case rel => exact ⟨num ++ [fst.length], fst ++ [num.length], by simp, S6, by simp⟩
  · have hi' : ¬ (num.length : Int) < (N : Int) := by omega
    go_wp2
    go_ret2
    refine ⟨⟨_, _, rfl, num, fst, ?_⟩, S.out.bel⟩
    have e : num.length = N := by omega
    have h1 := S.out.o1
    rw [e, Nat.sub_self, List.replicate_zero, List.append_nil] at h1
    exact ⟨h1, S.out.o2, S.out.ap, e, by have := S.out.nf; rw [e] at this; exact this⟩
section
variable {P : Program}
theorem run_loadVar_at (w : World) (p : Addr) (ty : TypeId) (cs : Array Value) (d : TypeDesc) (hc : ∀ j v, cs[j]? = some v → w.cell? (p.add j) = some v)
 (hu : P.underlying ty = some d) (hd : (match d with | .struct _ | .array _ _ => true | _ => false) = true) (hi : (P.info? ty).map (·.size) = some cs.size) :
 (loadVar ty p).run P w = .ok (.agg cs) w := by
 have hl : (loadCells p cs.toList.length).run P w = .ok cs.toList.toArray w :=
  run_loadCells_list (P := P) w p cs.toList (fun j v hv => hc j v (by simpa using hv))
 cases hq : P.info? ty with
 | none => simp [hq] at hi
 | some i =>
   have hs : i.size = cs.size := by simpa [hq] using hi
   have hagg : (isAgg ty).run P w = .ok true w := by
    unfold isAgg
    rw [Sem.run_bind, run_underlying hu w]
    cases d <;> simp_all
   simp only [Array.length_toList, Array.toArray_toList] at hl
   simp [loadVar, Sem.run_bind, hagg, sizeOf, typeInfo, hq, hs, hl]
theorem wpList_load_at {ops : Array Oper} {rest : List Oper} {o : Oper} {a : Act} {w : World} {Q : Exit → Act → World → Prop} (hgd : o.guard = none) (ty : TypeId) (x : Operand) (ho : o.op = .load ty x)
 (p : Addr) (hx : a.eval x = .pointer (some p)) (cs : Array Value) (d : TypeDesc) (hc : ∀ j v, cs[j]? = some v → w.cell? (p.add j) = some v)
 (hu : P.underlying ty = some d) (hd : (match d with | .struct _ | .array _ _ => true | _ => false) = true) (hi : (P.info? ty).map (·.size) = some cs.size)
 (h : wpList P ops Q rest (a.put o.dst (.agg cs)) w) : wpList P ops Q (o :: rest) a w :=
 wpList_plain hgd fun _ hK => by
  unfold Oper.wp execOp
  simp only [ho, hx, Instr.loadAt, Instr.sureAddr, Sem.run_bind, Sem.run_pure, Result.andThen_ok, run_loadVar_at w p ty cs d hc hu hd hi]
  exact hK _ _ h
theorem wpList_insert_in {H : Type} {ops : Array Oper} {rest : List Oper} {o : Oper} {a : Act} {w : World} {Q : Exit → Act → World → Prop} (hg : o.guard = none) (m x v : Operand) (t : TypeId) (hop : o.op = Op.insert t m x v)
 (k e : TypeId) (K : Keyed P k) (ht : P.underlying t = some (.map k e)) (R : Value → Option (DataW H × List MemPlace)) (b n : Nat) (D : DataW H)
 (hm : a.eval m = .map (some b)) (hown : w.ownsMap P k R b n D) (hn : n < maxLen) (key val : Value) (kl : Lit) (hx : a.eval x = key) (hv : a.eval v = val) (hkey : keyOf P k key = some kl)
 (d : DataW H) (ps : List MemPlace) (hval : R val = some (d, ps))
 (hK : ∀ w', w'.ownsMap P k R b (n + 1) (D.put kl d) → w.mapTurned w' b → wpList P ops Q rest (a.put o.dst undef) w') :
 wpList P ops Q (o :: rest) a w := by
 refine wpList_plain hg fun K' hK' => ?_
 obtain ⟨w', hrun, r1, r2⟩ := hown.store K ht hn hkey hval
 unfold Oper.wp
 simp [execOp, hop, hm, hx, hv, hrun, Result.andThen]
 exact hK' _ _ (hK w' r1 r2)
theorem wpList_buildOne {ops : Array Oper} {rest : List Oper} {o : Oper} {a : Act} {w : World} {Q : Exit → Act → World → Prop} (hg : o.guard = none) (t e : TypeId) (x : Operand) (ho : o.op = .buildSlice t 1 #[(0, x)])
 (cs : Array Value) (hx : a.eval x = .agg cs) (ie : TypeInfo) (z : Value) (hu : P.underlying t = some (.slice e)) (hie : P.info? e = some ie) (hz : ie.zero = some z) (hsz : ie.size = cs.size) (h0 : 0 < cs.size) (hsm : cs.size ≤ 2 ^ 24)
 (h : wpList P ops Q rest (a.put o.dst (.slice (some ⟨w.heap.size, 0, none⟩) 1 1)) (w.alloc (.cells cs e))) : wpList P ops Q (o :: rest) a w := by
 obtain ⟨r, hr, hrs, hrk⟩ := Great.fill_dense (s := cs.size) h0 [.agg cs] 0 ((Array.range (1 * ie.size)).map (z.cells[· % z.cells.size]!)) (fun v hv => by rw [List.mem_singleton.1 hv]; rfl) (by simp [hsz])
 have e : r = cs := by
  apply Array.ext
  · rw [hrs]; simp [hsz]
  · intro k h1 h2
    have := hrk k
    rw [if_pos ⟨by omega, by simp; exact h2⟩] at this
    rw [Array.getElem?_eq_getElem h1, Nat.div_eq_of_lt h2, Nat.mod_eq_of_lt h2] at this
    simpa [Value.cells, h2] using this
 subst e
 refine wpList_buildSlice hg t e 1 _ ho r ie z hu hie hz (by rw [hsz]; omega) (by rw [hsz]; omega) ?_ h
 rw [hsz] at hr ⊢
 rw [← hr]
 simp [hx]
end
def oC {S : Type} (val : S → Array Value) (St : List S) : List Value := St.flatMap fun s => (val s).toList
section
variable {S : Type} {val : S → Array Value}
theorem oC_snoc (St : List S) (x : S) : oC val (St ++ [x]) = oC val St ++ (val x).toList := by simp [oC]
theorem oC_get {K : Nat} : ∀ (St : List S), (∀ s ∈ St, (val s).size = K) → ∀ i (h : i < St.length) j (_ : j < K), (oC val St)[i * K + j]? = (val St[i])[j]?
 | [], _, i, h, _, _ => by simp at h
 | s :: St, hs, 0, _, j, hj => by
   have h0 := hs s List.mem_cons_self
   unfold oC
   rw [List.flatMap_cons, Nat.zero_mul, Nat.zero_add, List.getElem?_append_left (by rw [Array.length_toList, h0]; exact hj)]
   simp
 | s :: St, hs, i + 1, h, j, hj => by
   have h0 := hs s List.mem_cons_self
   have ih := oC_get St (fun t ht => hs t (List.mem_cons_of_mem _ ht)) i (by simp at h; omega) j hj
   unfold oC at ih ⊢
   rw [List.flatMap_cons, Nat.succ_mul, List.getElem?_append_right (by rw [Array.length_toList, h0]; omega), Array.length_toList, h0, show i * K + K + j - K = i * K + j by omega, ih]
   rfl
theorem oC_len {K : Nat} : ∀ (St : List S), (∀ s ∈ St, (val s).size = K) → (oC val St).length = St.length * K
 | [], _ => by simp [oC]
 | s :: St, hs => by
   have ih := oC_len St (fun t ht => hs t (List.mem_cons_of_mem _ ht))
   unfold oC at ih ⊢
   rw [List.flatMap_cons, List.length_append, ih, Array.length_toList, hs s List.mem_cons_self, List.length_cons, Nat.succ_mul]
   omega
structure XM (T K : Nat) {S : Type} (val : S → Array Value) (w0 : World) (mb : Nat) (ks : List Lit) (sv xv : Value) (St : List S) (NX : List Nat) (w : World) : Prop where
 map : MpAt T w mb ks
 o1 : w.ownsRow w0.heap.size T K sv St.length (oC val St)
 o2 : OwnN w w0.heap.size xv NX
 ap : ∀ b, sv.ownBlock = some b → ¬ xv.ownBlock = some b
 mge : w0.heap.size ≤ mb
 bel : Below w0.heap.size w0 w
variable {T K : Nat} {w0 w w' : World} {mb : Nat} {ks : List Lit} {sv xv v' : Value} {St : List S} {NX : List Nat}
theorem XM.below (h : XM T K val w0 mb ks sv xv St NX w) (x : Below w.heap.size w w') : XM T K val w0 mb ks sv xv St NX w' :=
 ⟨h.map.below x, own_below h.o1 x, own_below h.o2 x, h.ap, h.mge, bt h.bel x (Nat.le_refl _)⟩
theorem XM.put (h : XM T K val w0 mb ks sv xv St NX w) {kl : Lit} {D : DataW Unit} (hm : kl ∉ ks) (hk : WideAt.IsKeyLit kl) (hh : ∀ kl, Maps.has D kl = true ↔ kl ∈ ks) (ha : ∀ i (h : i < ks.length), D.atKey ks[i] (.lit (.int .i64 0)) = .lit (.int .i64 (i : Int)))
 (ho : w.ownsMap Tryz.prog T (plainElem Tryz.prog 3) mb ks.length D) (h1 : w'.ownsMap Tryz.prog T (plainElem Tryz.prog 3) mb (ks.length + 1) (D.put kl (.lit (.int .i64 (ks.length : Int))))) (t4 : w.mapTurned w' mb) : XM T K val w0 mb (ks ++ [kl]) sv xv St NX w' := by
 have k4 : Kept (fun b => b = mb) w w' := (kept_of_grown t4.grown).mono (fun b hb => by injection hb with hb; exact hb.symm)
 exact ⟨MpAt.put hk hm ho.isMap hh ha h1, own_kept h.o1 k4 (fun b hb e => own_ne_map h.map h.o1 (by rw [← e]; exact hb)), own_kept h.o2 k4 (fun b hb e => own_ne_map h.map h.o2 (by rw [← e]; exact hb)), h.ap, h.mge, h.bel.trans (k4.below h.bel.size (fun i hi => by have := h.mge; omega))⟩
theorem app_keptX {w w6 : World} {v v' : Value} (g2 : AppAt w w6 v v') : ∃ F : Nat → Prop, Kept F w w6 ∧ (∀ b, F b → v.ownBlock = some b) := by
 rcases g2 with ⟨q, a, b, c⟩ | ⟨a, b⟩
 · exact ⟨fun b => some q = some b, kept_of_grown c, fun b hb => a.trans hb⟩
 · exact ⟨fun _ => False, Kept.of_below (below_of_grown a), fun b hb => hb.elim⟩
theorem app_apart {w w6 : World} {v v' u : Value} {base e size n : Nat} {xs : List Value} (g2 : AppAt w w6 v v') (hu : w.ownsRow base e size u n xs) (hap : ∀ b, v.ownBlock = some b → ¬ u.ownBlock = some b) : ∀ b, v'.ownBlock = some b → ¬ u.ownBlock = some b := fun b hb hv => by
 rcases g2 with ⟨q, a, c, _⟩ | ⟨_, c⟩
 · exact hap b (by rw [a, ← c]; exact hb) hv
 · have h1 := c b hb
   have h2 := (World.ownsRow.lt hu b hv).2
   omega
theorem XM.appS (h : XM T K val w0 mb ks sv xv St NX w) (x : S) (g1 : w'.ownsRow w0.heap.size T K v' (St.length + 1) (oC val St ++ (val x).toList)) (g2 : AppAt w w' sv v') : XM T K val w0 mb ks v' xv (St ++ [x]) NX w' := by
 obtain ⟨F, k6, hF⟩ := app_keptX g2
 refine ⟨h.map.kept k6 (fun hf => own_ne_map h.map h.o1 (hF _ hf)), ?_, own_kept h.o2 k6 (fun b hb hf => h.ap b (hF b hf) hb), app_apart g2 h.o2 h.ap, h.mge, h.bel.trans (k6.below h.bel.size (fun i hf => (World.ownsRow.lt h.o1 i (hF i hf)).1))⟩
 rw [oC_snoc, List.length_append, List.length_singleton]
 exact g1
theorem XM.appX (h : XM T K val w0 mb ks sv xv St NX w) (n : Nat) (g1 : w'.ownsRow w0.heap.size 3 1 v' (NX.length + 1) (nCells NX ++ [.int .i64 (n : Nat)])) (g2 : AppAt w w' xv v') : XM T K val w0 mb ks sv v' St (NX ++ [n]) w' := by
 obtain ⟨F, k6, hF⟩ := app_keptX g2
 have o2 : w.ownsRow w0.heap.size 3 1 xv NX.length (nCells NX) := h.o2
 refine ⟨h.map.kept k6 (fun hf => own_ne_map h.map o2 (hF _ hf)), own_kept h.o1 k6 (fun b hb hf => h.ap b hb (hF b hf)), ?_, fun b hb hv => app_apart g2 h.o1 (fun b hb hv => h.ap b hv hb) b hv hb, h.mge, h.bel.trans (k6.below h.bel.size (fun i hf => (World.ownsRow.lt o2 i (hF i hf)).1))⟩
 unfold OwnN
 rw [nCells_snoc, List.length_append, List.length_singleton]
 exact g1
theorem XM.cells (h : XM T K val w0 mb ks sv xv St NX w) (hs : ∀ s ∈ St, (val s).size = K) {i : Nat} (hi : i < St.length) : ∃ g cap, sv = .slice (some ⟨g, 0, none⟩) St.length cap ∧ ∀ j v, (val St[i])[j]? = some v → w.cell? ((⟨g, i * K, none⟩ : Addr).add j) = some v := by
 rcases h.o1.2 with ⟨_, e1⟩ | ⟨g, cap, cur, e1, hb, hg, hnc, hcm, hcs, htake⟩
 · omega
 · refine ⟨g, cap, e1, fun j v hv => ?_⟩
   have hj : j < K := by
    have h1 := hs _ (List.getElem_mem hi)
    apply Nat.lt_of_not_le
    intro hle
    rw [Array.getElem?_eq_none (by rw [h1]; exact hle)] at hv
    cases hv
   have h2 := oC_get St hs i hi j hj
   rw [hv, ← htake, List.getElem?_take, if_pos (at_lt hi hj)] at h2
   have e2 : (⟨g, i * K, none⟩ : Addr).add j = ⟨g, i * K + j, none⟩ := by unfold Addr.add; split <;> simp_all
   rw [e2, cell_of_row _ _ _ _ _ _ hg]
   simpa using h2
end
end Go.Proofs.YtdgoilkgplnhfaaGreat
namespace Go.Proofs.YtdgoilkgplnhfaaGreat
open Go.RowKit Go.Lib
theorem OwnU.slot' {w : World} {base g n cap : Nat} {L : List Nat} (h : OwnU w base (.slice (some ⟨g, 0, none⟩) n cap) L) {i : Nat} (hi : i < L.length) : w.cell? ⟨g, i, none⟩ = some (.int .u8 ((gN L i : Nat) : Int)) ∧ w.frozen? ⟨g, i, none⟩ = false := by
 have hh : w.ownsRow base 5 1 (.slice (some ⟨g, 0, none⟩) n cap) L.length (uCells L) := h
 have hn : n = L.length := by
  rcases hh.2 with ⟨e, e2⟩ | ⟨g', c', cur, e, _⟩
  · cases e
  · injection e with _ e2 _
 subst hn
 refine ⟨?_, hh.frozenAt _⟩
 rw [hh.cellAt i (by omega), gN_lt hi]
 simp [uCells, hi]
theorem OwnU.store' {w : World} {base g cap n : Nat} {L : List Nat} (h : OwnU w base (.slice (some ⟨g, 0, none⟩) n cap) L) (i x : Nat) : OwnU (w.setCell ⟨g, i, none⟩ (.int .u8 (x : Int))) base (.slice (some ⟨g, 0, none⟩) n cap) (L.set i x) ∧ Kept (fun k => k = g) w (w.setCell ⟨g, i, none⟩ (.int .u8 (x : Int))) := by
 have hh : w.ownsRow base 5 1 (.slice (some ⟨g, 0, none⟩) n cap) L.length (uCells L) := h
 have hn : n = L.length := by
  rcases hh.2 with ⟨e, e2⟩ | ⟨g', c', cur, e, _⟩
  · cases e
  · injection e with _ e2 _
 subst hn
 obtain ⟨h1, h2⟩ := hh.stored i (.int .u8 (x : Int))
 refine ⟨?_, (kept_of_grown h2).mono (fun k hk => by injection hk with hk; exact hk.symm)⟩
 unfold OwnU
 rw [List.length_set, show uCells (L.set i x) = (uCells L).set i (.int .u8 (x : Int)) by simp [uCells, List.map_set]]
 exact h1
def Rvk (L R : List Nat) (k : Nat) : Prop := R.length = L.length ∧ ∀ q, q < L.length → gN R q = if q < k ∨ L.length - k ≤ q then gN L (L.length - 1 - q) else gN L q
theorem gN_setR (L : List Nat) (i x q : Nat) (h : q < L.length) : gN (L.set i x) q = if i = q then x else gN L q := by
 rw [gN_lt (by rw [List.length_set]; exact h), gN_lt h, List.getElem_set]
theorem Rvk.next {L R : List Nat} {k : Nat} (h : Rvk L R k) (hk : k < L.length - 1 - k) : Rvk L ((R.set k (gN R (L.length - 1 - k))).set (L.length - 1 - k) (gN R k)) (k + 1) := by
 refine ⟨by rw [List.length_set, List.length_set, h.1], fun q hq => ?_⟩
 have hR := h.1
 rw [gN_setR _ _ _ _ (by rw [List.length_set, hR]; exact hq), gN_setR _ _ _ _ (by rw [hR]; exact hq)]
 have h1 := h.2 k (by omega)
 have h2 := h.2 (L.length - 1 - k) (by omega)
 rw [if_neg (by omega)] at h1 h2
 by_cases e1 : L.length - 1 - k = q
 · rw [if_pos e1, if_pos (by omega), h1]
   congr 1
   omega
 · rw [if_neg e1]
   by_cases e2 : k = q
   · rw [if_pos e2, if_pos (by omega), h2]
     congr 1
     omega
   · rw [if_neg e2, h.2 q hq]
     by_cases h3 : q < k ∨ L.length - k ≤ q
     · rw [if_pos h3, if_pos (by omega)]
     · rw [if_neg h3, if_neg (by omega)]
theorem Rvk.done {L R : List Nat} {k : Nat} (h : Rvk L R k) (hk : ¬ (k : Int) < (L.length : Int) - 1 - k) : R = L.reverse := by
 apply List.ext_getElem
 · rw [h.1, List.length_reverse]
 · intro q h1 h2
   have hq : q < L.length := by rw [← h.1]; exact h1
   have h3 := h.2 q hq
   rw [gN_lt h1] at h3
   rw [h3, List.getElem_reverse]
   split
   · exact gN_lt _
   · rw [gN_lt hq]
     congr 1
     omega
theorem reverse_any (base g cap : Nat) (L : List Nat) (w : World) (hl : L.length ≤ 4294967296) (ho : OwnU w base (.slice (some ⟨g, 0, none⟩) L.length cap) L) :
 Calls Tryz.prog 101 #[.slice (some ⟨g, 0, none⟩) L.length cap] w fun e w' => e = .returned (.tuple #[]) ∧ OwnU w' base (.slice (some ⟨g, 0, none⟩) L.length cap) L.reverse ∧ Kept (fun k => k = g) w w' := by
 have HO := hide ho
 have hg := (World.ownsRow.lt (show w.ownsRow base 5 1 (.slice (some ⟨g, 0, none⟩) L.length cap) L.length (uCells L) from ho) g rfl).2
 have HR0 : Hid (Rvk L L 0) := ⟨rfl, fun q hq => by rw [if_neg (by omega)]⟩
 have w0 : IntKind.i64.wrap ((L.length : Int) - 1) = (L.length : Int) - 1 := by simp [IntKind.wrap, IntKind.bits, IntKind.signed]; omega
 clear ho
 go_enter Tryz.func101, Tryz.ntmps101
 go_wp2
 go_loopg [2, 3] (L.length + 1) (fun gg x y wr => ∃ (k : Nat) (R : List Nat), x = .int .i64 (k : Nat) ∧ y = .int .i64 ((L.length : Int) - 1 - (k : Int)) ∧ Hid (OwnU wr base (.slice (some ⟨g, 0, none⟩) L.length cap) R) ∧ Hid (Rvk L R k) ∧ Hid (Kept (fun k => k = g) w wr) ∧ k ≤ L.length ∧ L.length - k < gg)
 case atStart => exact ⟨0, L, rfl, by congr 1; simp, HO, HR0, Kept.refl _ _, by omega, by omega⟩
 case round =>
  obtain ⟨k, R, rfl, rfl, O, RV, KP, hk, hgg⟩ := hrel
  have HG := hide hgg
  clear hgg HR0
  by_cases hlt : k < L.length - 1 - k
  · have hlt' : (k : Int) < (L.length : Int) - 1 - (k : Int) := by omega
    have hRl := RV.out.1
    obtain ⟨j, hj⟩ : ∃ j, Hid (j = L.length - 1 - k) := ⟨_, rfl⟩
    have hj1 : (L.length : Int) - 1 - (k : Int) = (j : Int) := by rw [hj.out]; omega
    have hjk : ¬ k = j := by rw [hj.out]; omega
    have hjl : j < L.length := by rw [hj.out]; omega
    have hkj : (k : Int) < (j : Int) := by omega
    have hjl' : (j : Int) < (L.length : Int) := by omega
    have hkl' : (k : Int) < (L.length : Int) := by omega
    obtain ⟨x1, x2⟩ := O.out.slot' (i := k) (by omega)
    obtain ⟨x3, x4⟩ := O.out.slot' (i := j) (by omega)
    have RN := hide (RV.out.next hlt)
    rw [← hj.out] at RN
    have O' : OwnU wr.drew base (.slice (some ⟨g, 0, none⟩) L.length cap) R := own_below O.out (Below.refl _ _).drew
    have kd : Kept (fun k => k = g) wr wr.drew := Kept.of_below (Below.refl _ _).drew
    obtain ⟨o1, k1⟩ := O'.store' k (gN R j)
    obtain ⟨o2, k2⟩ := o1.store' j (gN R k)
    have ON := hide o2
    have KN := hide (((KP.out.trans kd).trans k1).trans k2)
    obtain ⟨y3, y4⟩ := o1.slot' (i := j) (by rw [List.length_set]; omega)
    rw [hj1]
    have wk : IntKind.i64.wrap ((k : Int) + 1) = ((k + 1 : Nat) : Int) := by rw [show (k : Int) + 1 = ((k + 1 : Nat) : Int) by simp]; exact w64_n _ (by omega)
    have wj : IntKind.i64.wrap ((j : Int) - 1) = (j : Int) - 1 := by simp [IntKind.wrap, IntKind.bits, IntKind.signed]; omega
    have HJ1 := hide hj1
    clear hj1 o1 k1 o2 k2 O' kd
    generalize gN R k = u at *
    generalize gN R j = v at *
    go_wp2
    go_region
    all_goals
     go_wp2
     go_roundg (L.length - (k + 1) + 1)
     case measure => have := HG.out; omega
     case rel => exact ⟨k + 1, _, by first | rfl | go_num | (congr 1; omega), by congr 1; have := HJ1.out; omega, ON, RN, KN, by omega, by omega⟩
  · have hlt' : ¬ (k : Int) < (L.length : Int) - 1 - (k : Int) := by omega
    have RD := hide (RV.out.done hlt')
    go_wp2
    refine bodyPost_end (v := .tuple #[]) (results_none rfl _ _ _) rfl ?_
    exact ⟨rfl, by rw [← RD.out]; exact O.out, KP.out⟩
def IxP (L : List Int) (v : Int) (e : Ending) : Prop :=
 (∃ i : Nat, e = .returned (.int .i64 (i : Int)) ∧ L[i]? = some v ∧ ∀ j, j < i → L[j]? ≠ some v) ∨ (e = .returned (.int .i64 (-1)) ∧ v ∉ L)
theorem index66_any (ao : Option Addr) (cap : Nat) (L : List Int) (v : Int) (w : World) (hl : L.length ≤ 140737488351232) (hat : ZAt w ao L) :
 Calls Tryz.prog 66 #[.slice ao L.length cap, .int .i64 v] w fun e w' => IxP L v e ∧ w' = w := by
 have HAT := hide hat
 clear hat
 go_enter Tryz.func66, Tryz.ntmps66
 go_wp2
 go_loopg [8] (L.length + 1) (fun g x wr => ∃ k : Nat, x = .int .i64 (k : Nat) ∧ k ≤ L.length ∧ Hid (∀ j, j < k → L[j]? ≠ some v) ∧ wr = w ∧ L.length - k < g)
 case atStart => exact ⟨0, rfl, by omega, fun j hj => by omega, rfl, by omega⟩
 case round =>
  obtain ⟨k, rfl, hk1, HA, rfl, hg⟩ := hrel
  have HG := hide hg
  clear hg
  by_cases hk : k < L.length
  · have hk' : (k : Int) < (L.length : Int) := by omega
    obtain ⟨b, off, rfl, c0⟩ := HAT.out.get hk
    obtain ⟨z, hz⟩ : ∃ z, L[k] = z := ⟨_, rfl⟩
    have HZ : Hid (L[k]? = some z) := by unfold Hid; rw [List.getElem?_eq_getElem hk, hz]
    rw [hz] at c0
    clear hz
    by_cases hv : v = z
    · subst hv
      go_wp2
      go_ret
      exact ⟨.inl ⟨k, rfl, HZ.out, HA.out⟩, rfl⟩
    · have HV : Hid (∀ j, j < k + 1 → L[j]? ≠ some v) := fun j hj => by
       by_cases e : j = k
       · rw [e, HZ.out]; intro h; injection h with h; exact hv h.symm
       · exact HA.out j (by omega)
      go_wp2
      go_roundg (L.length - (k + 1) + 1)
      case measure => have := HG.out; omega
      case rel => exact ⟨k + 1, by first | rfl | go_num | (congr 1; omega), by omega, HV, rfl, by omega⟩
  · have hk' : ¬ (k : Int) < (L.length : Int) := by omega
    obtain rfl : k = L.length := by omega
    go_wp2
    go_ret
    refine ⟨.inr ⟨rfl, fun h => ?_⟩, rfl⟩
    obtain ⟨i, hi, e⟩ := List.getElem_of_mem h
    exact HA.out i hi (by rw [List.getElem?_eq_getElem hi, e])
end Go.Proofs.YtdgoilkgplnhfaaGreat
