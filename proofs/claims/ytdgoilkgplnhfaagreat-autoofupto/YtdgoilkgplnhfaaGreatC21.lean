/-
  The contracts of slices.SortFunc, cmp.Compare at this program, laid off the library by its own tool: no condition of ours.
-/
import Derived.Shelf.SlSortCmp.WholeK
import Derived.Shelf.SlicesG.Cmp
import Derived.Ground.SlsfProg
import Derived.Ground.SlgcProg
import Derived.Test.YtdgoilkgplnhfaaGreatC01
import Derived.Shelf.SlSortCmp.NoneTotal
import Derived.Laws.OwnMore
import Derived.OwnWalk
import Derived.Maps.AppendAt
import Derived.Deep.RegionHeld3
import Derived.Lib.SliceRun
set_option maxRecDepth 100000
set_option maxHeartbeats 16000000
namespace Go.Proofs
open Go.Shelf
def Tryz.sortSp_ren : Go.Shelf.Ren := ⟨fun | 6 => 147 | 15 => 128 | 14 => 165 | 28 => 158 | 29 => 159 | 20 => 179 | 21 => 180 | 22 => 181 | 23 => 182 | 24 => 183 | 25 => 184 | 26 => 185 | 27 => 186 | 46 => 191 | 47 => 167 | 48 => 168 | 49 => 192 | 50 => 193 | 57 => 195 | n => n, fun | 22 => 94 | 24 => 175 | 25 => 195 | 3 => 3 | 39 => 183 | 0 => 0 | 53 => 205 | 55 => 207 | 4 => 4 | 46 => 199 | 45 => 198 | 50 => 134 | 5 => 5 | 9 => 9 | 66 => 212 | 70 => 216 | 76 => 228 | 77 => 229 | n => n, fun | n => n⟩
theorem Tryz.sortSp : Go.Proofs.SlLaysF0.n6 Tryz.prog Tryz.sortSp_ren := {
 mixed := by kernel_rfl
 f6 := ⟨Tryz.f147.name, by decide, Tryz.func147.trans (congrArg some (by kernel_rfl))⟩
 f14 := ⟨Tryz.f165.name, by decide, Tryz.func165.trans (congrArg some (by kernel_rfl))⟩
 f15 := Tryz.func128.trans (congrArg some (by kernel_rfl))
 f20 := ⟨Tryz.f179.name, by decide, Tryz.func179.trans (congrArg some (by kernel_rfl))⟩
 f21 := ⟨Tryz.f180.name, by decide, Tryz.func180.trans (congrArg some (by kernel_rfl))⟩
 f22 := ⟨Tryz.f181.name, by decide, Tryz.func181.trans (congrArg some (by kernel_rfl))⟩
 f23 := ⟨Tryz.f182.name, by decide, Tryz.func182.trans (congrArg some (by kernel_rfl))⟩
 f24 := ⟨Tryz.f183.name, by decide, Tryz.func183.trans (congrArg some (by kernel_rfl))⟩
 f25 := ⟨Tryz.f184.name, by decide, Tryz.func184.trans (congrArg some (by kernel_rfl))⟩
 f26 := ⟨Tryz.f185.name, by decide, Tryz.func185.trans (congrArg some (by kernel_rfl))⟩
 f27 := ⟨Tryz.f186.name, by decide, Tryz.func186.trans (congrArg some (by kernel_rfl))⟩
 f28 := Tryz.func158.trans (congrArg some (by kernel_rfl))
 f29 := Tryz.func159.trans (congrArg some (by kernel_rfl))
 f46 := ⟨Tryz.f191.name, by decide, Tryz.func191.trans (congrArg some (by kernel_rfl))⟩
 f47 := Tryz.func167.trans (congrArg some (by kernel_rfl))
 f48 := Tryz.func168.trans (congrArg some (by kernel_rfl))
 f49 := ⟨Tryz.f192.name, by decide, Tryz.func192.trans (congrArg some (by kernel_rfl))⟩
 f50 := ⟨Tryz.f193.name, by decide, Tryz.func193.trans (congrArg some (by kernel_rfl))⟩
 f57 := ⟨Tryz.f195.name, by decide, Tryz.func195.trans (congrArg some (by kernel_rfl))⟩
 t0 := Tryz.underlying0
 a0 := Tryz.isAgg0
 z0 := Tryz.sizeOf0
 v0 := Tryz.zeroValue0
 t3 := Tryz.underlying3
 a3 := Tryz.isAgg3
 z3 := Tryz.sizeOf3
 v3 := Tryz.zeroValue3
 t4 := Tryz.underlying4
 a4 := Tryz.isAgg4
 z4 := Tryz.sizeOf4
 v4 := Tryz.zeroValue4
 t5 := Tryz.underlying5
 a5 := Tryz.isAgg5
 z5 := Tryz.sizeOf5
 v5 := Tryz.zeroValue5
 t9 := Tryz.underlying9
 a9 := Tryz.isAgg9
 z9 := Tryz.sizeOf9
 v9 := Tryz.zeroValue9
 t22 := Tryz.underlying94
 a22 := Tryz.isAgg94
 z22 := Tryz.sizeOf94
 v22 := Tryz.zeroValue94
 t25 := Tryz.underlying195
 a25 := Tryz.isAgg195
 z25 := Tryz.sizeOf195
 v25 := Tryz.zeroValue195
 t39 := Tryz.underlying183
 a39 := Tryz.isAgg183
 z39 := Tryz.sizeOf183
 v39 := Tryz.zeroValue183
 t45 := Tryz.underlying198
 a45 := Tryz.isAgg198
 z45 := Tryz.sizeOf198
 v45 := Tryz.zeroValue198
 t46 := Tryz.underlying199
 a46 := Tryz.isAgg199
 z46 := Tryz.sizeOf199
 v46 := Tryz.zeroValue199
 t50 := Tryz.underlying134
 a50 := Tryz.isAgg134
 z50 := Tryz.sizeOf134
 v50 := Tryz.zeroValue134
 t53 := Tryz.underlying205
 a53 := Tryz.isAgg205
 z53 := Tryz.sizeOf205
 v53 := Tryz.zeroValue205
 t55 := Tryz.underlying207
 a55 := Tryz.isAgg207
 z55 := Tryz.sizeOf207
 v55 := Tryz.zeroValue207
 t66 := Tryz.underlying212
 a66 := Tryz.isAgg212
 z66 := Tryz.sizeOf212
 v66 := Tryz.zeroValue212
 t70 := Tryz.underlying216
 a70 := Tryz.isAgg216
 z70 := Tryz.sizeOf216
 v70 := Tryz.zeroValue216
 t76 := Tryz.underlying228
 a76 := Tryz.isAgg228
 z76 := Tryz.sizeOf228
 v76 := Tryz.zeroValue228
 t77 := Tryz.underlying229
 a77 := Tryz.isAgg229
 z77 := Tryz.sizeOf229
 v77 := Tryz.zeroValue229 }
def Tryz.sortI_ren : Go.Shelf.Ren := ⟨fun | 6 => 135 | 15 => 128 | 14 => 163 | 28 => 158 | 29 => 159 | 20 => 171 | 21 => 172 | 22 => 173 | 23 => 174 | 24 => 175 | 25 => 176 | 26 => 177 | 27 => 178 | 46 => 188 | 47 => 167 | 48 => 168 | 49 => 189 | 50 => 190 | 57 => 194 | n => n, fun | 22 => 22 | 24 => 3 | 25 => 59 | 3 => 3 | 39 => 183 | 0 => 0 | 53 => 205 | 55 => 207 | 4 => 4 | 46 => 199 | 45 => 198 | 50 => 134 | 5 => 5 | 9 => 9 | 66 => 212 | 70 => 216 | 76 => 228 | 77 => 229 | n => n, fun | n => n⟩
def Tryz.cmpInt_ren : Go.Shelf.Ren := ⟨fun | 5 => 129 | 7 => 160 | n => n, fun | 22 => 3 | 3 => 3 | 4 => 4 | n => n, fun | n => n⟩
theorem Tryz.cmpInt : Go.Proofs.SlLaysC2.n5 Tryz.prog Tryz.cmpInt_ren := {
 mixed := by kernel_rfl
 f5 := ⟨Tryz.f129.name, by decide, Tryz.func129.trans (congrArg some (by kernel_rfl))⟩
 f7 := ⟨Tryz.f160.name, by decide, Tryz.func160.trans (congrArg some (by kernel_rfl))⟩
 t3 := Tryz.underlying3
 a3 := Tryz.isAgg3
 z3 := Tryz.sizeOf3
 v3 := Tryz.zeroValue3
 t4 := Tryz.underlying4
 a4 := Tryz.isAgg4
 z4 := Tryz.sizeOf4
 v4 := Tryz.zeroValue4
 t22 := Tryz.underlying3
 a22 := Tryz.isAgg3
 z22 := Tryz.sizeOf3
 v22 := Tryz.zeroValue3 }
end Go.Proofs
namespace Go.Proofs.YtdgoilkgplnhfaaGreat
open Go.RowKit Go.Lib Go.Sort Go.Shelf
def spCells (L : List Spn) : List Value := L.flatMap fun s => [.int .i64 s.1, .int .i64 s.2]
theorem spCells_cons (s : Spn) (L : List Spn) : spCells (s :: L) = .int .i64 s.1 :: .int .i64 s.2 :: spCells L := rfl
theorem spCells_append (L M : List Spn) : spCells (L ++ M) = spCells L ++ spCells M := by simp [spCells]
theorem spCells_length (L : List Spn) : (spCells L).length = L.length * 2 := by
 induction L with
 | nil => rfl
 | cons s L ih => simp only [spCells_cons, List.length_cons, ih]; omega
theorem spCells_get (L : List Spn) : ∀ i, i < L.length → (spCells L)[i * 2]? = some (.int .i64 (L.getD i (0, 0)).1) ∧ (spCells L)[i * 2 + 1]? = some (.int .i64 (L.getD i (0, 0)).2) := by
 induction L with
 | nil => intro i hi; simp at hi
 | cons s L ih =>
   intro i hi
   cases i with
   | zero => simp [spCells_cons]
   | succ i =>
     have := ih i (by simpa using hi)
     rw [show (i + 1) * 2 = i * 2 + 1 + 1 by omega]
     simp only [spCells_cons, List.getElem?_cons_succ, List.getD_cons_succ]
     exact this
theorem spCells_one (L : List Spn) : ∀ u ∈ spCells L, u.oneCell' = true := by
 intro u hu
 simp only [spCells, List.mem_flatMap, List.mem_cons, List.not_mem_nil, or_false] at hu
 obtain ⟨s, _, rfl | rfl⟩ := hu <;> rfl
def OwnS (w : World) (base : Nat) (v : Value) (L : List Spn) : Prop := w.ownsRow base 175 2 v L.length (spCells L)
theorem OwnS.nil (w : World) (base : Nat) : OwnS w base (.slice none 0 0) [] := World.ownsRow_nil w base 175 2
theorem OwnS.shape {w : World} {base : Nat} {v : Value} {L : List Spn} (h : OwnS w base v L) : ∃ ao cap, v = .slice ao L.length cap ∧ SpAt w ao L ∧ (∀ a, ao = some a → base ≤ a.block ∧ a.block < w.heap.size) := by
 have hh : w.ownsRow base 175 2 v L.length (spCells L) := h
 rcases hh.2 with ⟨rfl, hn⟩ | ⟨g, cap, cur, rfl, hb, hg, r⟩
 · exact ⟨none, 0, by rw [hn], .inl (List.length_eq_zero_iff.1 hn), fun a ha => by cases ha⟩
 · refine ⟨_, cap, rfl, ?_, fun a ha => by cases ha; exact ⟨hb, lt_of_block hg⟩⟩
   refine .inr ⟨g, 0, rfl, lt_of_block hg, fun i hi => ?_⟩
   have := spCells_get L i hi
   rw [Nat.zero_add]
   exact ⟨(World.ownsRow.cellAt hh (i * 2) (by omega)).trans this.1, (World.ownsRow.cellAt hh (i * 2 + 1) (by omega)).trans this.2⟩
theorem OwnS.kept {F : Nat → Prop} {w w' : World} {base : Nat} {v : Value} {L : List Spn} (h : OwnS w base v L) (hk : Kept F w w') (hF : ∀ k, v.ownBlock = some k → ¬ F k) : OwnS w' base v L := by
 refine ⟨h.1, ?_⟩
 rcases h.2 with hn | ⟨g, cap, cur, rfl, hb, hg, r⟩
 · exact .inl hn
 · exact .inr ⟨g, cap, cur, rfl, hb, (hk.block g (lt_of_block hg) (hF g rfl)).trans hg, r⟩
theorem OwnS.below {w w' : World} {base : Nat} {v : Value} {L : List Spn} (h : OwnS w base v L) (hb : Below w.heap.size w w') : OwnS w' base v L :=
 h.kept (F := fun _ => False) (Kept.of_below hb) (fun _ _ h => h)
theorem OwnS.mono {w : World} {base base' : Nat} {v : Value} {L : List Spn} (h : OwnS w base v L) (hb : base' ≤ base) : OwnS w base' v L := by
 refine ⟨h.1, ?_⟩
 rcases h.2 with hn | ⟨g, cap, cur, rfl, hb', r⟩
 · exact .inl hn
 · exact .inr ⟨g, cap, cur, rfl, Nat.le_trans hb hb', r⟩
theorem OwnS.lt {w : World} {base : Nat} {v : Value} {L : List Spn} (h : OwnS w base v L) : ∀ k, v.ownBlock = some k → base ≤ k ∧ k < w.heap.size := World.ownsRow.lt h
theorem Tryz.info175 : (Tryz.prog.info? 175).map (fun i => (i.zero, i.size, i.bytes)) = some (some (.agg #[.int .i64 0, .int .i64 0]), 2, 16) := by kernel_rfl
theorem new_cells (w0 : World) (s : Spn) (b : Nat) (hb : b = w0.heap.size) : ∀ j u, ([.int .i64 s.1, .int .i64 s.2] : List Value)[j]? = some u → (w0.alloc (.cells #[.int .i64 s.1, .int .i64 s.2] 175)).cell? ((⟨b, 0, none⟩ : Addr).add j) = some u := by
 subst hb
 intro j u hu
 match j, hu with
 | 0, hu => simp at hu; subst hu; simp [Addr.add]
 | 1, hu => simp at hu; subst hu; simp [Addr.add]
theorem spCells_snoc (A : List Spn) (s : Spn) : spCells (A ++ [s]) = spCells A ++ [.int .i64 s.1, .int .i64 s.2] := by rw [spCells_append]; rfl
def isRow (v : Value) (k : Nat) : Prop := v.ownBlock = some k
theorem spCells_setLast (B : List Spn) (z : Spn) (m : Int) : (spCells (B ++ [z])).set (B.length * 2 + 1) (.int .i64 m) = spCells (B ++ [(z.1, m)]) := by
 rw [spCells_append, spCells_append, List.set_append_right _ _ (by rw [spCells_length]; omega), spCells_length]
 rw [show B.length * 2 + 1 - B.length * 2 = 1 by omega]
 rfl
theorem joined_any (w : World) (base : Nat) (v : Value) (A : List Spn) (s : Spn) (hown : OwnS w base v A) (hb : base ≤ w.heap.size) (hl : A.length + 1 ≤ 8796093022208)
 (hA : ∀ B z, A = B ++ [z] → 0 ≤ z.2 ∧ z.2 ≤ 4294967295) :
 Calls Tryz.prog 149 #[v, .agg #[.int .i64 s.1, .int .i64 s.2]] w fun e w' => ∃ v', e = .returned v' ∧ OwnS w' base v' (joinL A s) ∧ Kept (isRow v) w w' ∧ (v'.ownBlock = v.ownBlock ∨ ∃ k, v'.ownBlock = some k ∧ w.heap.size ≤ k) := by
 obtain ⟨i0, hi, hz⟩ : ∃ i, Tryz.prog.info? 175 = some i ∧ (i.zero, i.size, i.bytes) = (some (.agg #[.int .i64 0, .int .i64 0]), 2, 16) := by
  have := Tryz.info175
  cases h : Tryz.prog.info? 175 with
  | none => rw [h] at this; simp at this
  | some i => rw [h] at this; exact ⟨i, rfl, Option.some.inj this⟩
 simp only [Prod.mk.injEq] at hz
 obtain ⟨hz0, hz1, hz2⟩ := hz
 obtain ⟨ao, cap, rfl, hat, hao⟩ := hown.shape
 have hh : w.ownsRow base 175 2 (.slice ao A.length cap) A.length (spCells A) := hown
 have HO := hide hown
 have HA := hide hA
 clear hown hA hao
 go_enter Tryz.func149, Tryz.ntmps149
 rcases List.eq_nil_or_concat A with rfl | ⟨B, z, rfl⟩
 · clear hat hh
   simp only [List.length_nil] at *
   go_wp2
   generalize hW : w.alloc (.cells #[.int .i64 s.1, .int .i64 s.2] 175) = W
   have q1 : W.cell? ⟨w.heap.size, 0, none⟩ = some (.int .i64 s.1) := by rw [← hW]; simp
   have q2 : W.cell? ⟨w.heap.size, 1, none⟩ = some (.int .i64 s.2) := by rw [← hW]; simp
   have hwb : Below w.heap.size w W := by rw [← hW]; exact (Below.refl _ _).alloc (Nat.le_refl _) _
   have hws : w.heap.size < W.heap.size := by rw [← hW]; simp
   have HD : Hid (Below W.heap.size W W.drew) := (Below.refl _ _).drew
   clear hW
   refine wp_region_quiet (C := fun w' => Below W.heap.size W w') (by kernel_rfl) (by kernel_rfl) HD.out ?_
   refine QW.out (l := _ :: _) ?_
   iterate 3 (refine QW.take (by rfl) ?_; apply Exists.intro; refine ⟨fun w' hw' => ?_, ?_⟩; (· (have g1 := (hw'.cell (p := ⟨w.heap.size, 0, none⟩) hws).trans q1; have g2 := (hw'.cell (p := ⟨w.heap.size, 1, none⟩) hws).trans q2; go_simp; first | done | (first | done | rfl))); try simp only [Act.put, List.setIfInBounds_toArray, List.set_cons_zero, List.set_cons_succ])
   iterate 9 (refine QW.skip (by rfl) ?_; try simp only [Act.put, List.setIfInBounds_toArray, List.set_cons_zero, List.set_cons_succ])
   iterate 1 (refine QW.take (by rfl) ?_; apply Exists.intro; refine ⟨fun w' hw' => ?_, ?_⟩; (· (have g1 := (hw'.cell (p := ⟨w.heap.size, 0, none⟩) hws).trans q1; have g2 := (hw'.cell (p := ⟨w.heap.size, 1, none⟩) hws).trans q2; go_simp; first | done | (first | done | rfl))); try simp only [Act.put, List.setIfInBounds_toArray, List.set_cons_zero, List.set_cons_succ])
   refine QW.nil ?_
   intro w2 x2
   clear HD
   have r1 := (x2.cell (p := ⟨w.heap.size, 0, none⟩) hws).trans q1
   have r2 := (x2.cell (p := ⟨w.heap.size, 1, none⟩) hws).trans q2
   have hb2 : Below w.heap.size w w2 := hwb.trans (x2.mono (Nat.le_of_lt hws))
   have hb3 : Below w.heap.size w (w2.alloc (.cells #[.int .i64 s.1, .int .i64 s.2] 175)) := hb2.alloc hb2.size _
   have HB3 := hide hb3
   have HN := hide (new_cells w2 s w2.heap.size rfl)
   have HO3 := hide (HO.out.below hb3)
   have hbs : base ≤ (w2.alloc (.cells #[.int .i64 s.1, .int .i64 s.2] 175)).heap.size := by have := hb3.size; omega
   have HBS := hide hbs
   have HF : Hid (∀ v' w8, w8.ownsRow base 175 2 v' (0 + 1) (spCells ([]) ++ [.int .i64 s.1, .int .i64 s.2]) → World.grownBy (w2.alloc (.cells #[.int .i64 s.1, .int .i64 s.2] 175)) w8 (Value.ownBlock (.slice ao 0 cap)) → (v'.ownBlock = Value.ownBlock (.slice ao 0 cap) ∨ v'.ownBlock = some (w2.alloc (.cells #[.int .i64 s.1, .int .i64 s.2] 175)).heap.size) →
    OwnS w8 base v' (([]) ++ [s]) ∧ Kept (isRow (.slice ao 0 cap)) w w8 ∧ (v'.ownBlock = Value.ownBlock (.slice ao 0 cap) ∨ ∃ k, v'.ownBlock = some k ∧ w.heap.size ≤ k)) := by
    intro v' w8 h1 h2 h3
    refine ⟨?_, (Kept.of_below HB3.out).grown h2 (fun k hk => hk), ?_⟩
    · unfold OwnS
      rw [spCells_snoc, List.length_append]
      simpa using h1
    · rcases h3 with h | h
      · exact .inl h
      · exact .inr ⟨_, h, HB3.out.size⟩
   clear x2 q1 q2 hb2 hb3 hbs hwb hws
   go_wp2_with (at_builtin; refine wpList_append_own_at _ rfl (.tmp 22) (.tmp 24) 94 rfl base 175 i0 (.agg #[.int .i64 0, .int .i64 0]) 2 16 Tryz.underlying94 hi hz0 hz1 hz2 rfl (by decide) _ 0 (spCells ([])) rfl HO3.out ⟨w2.heap.size, 0, none⟩ 1 1 [.int .i64 s.1, .int .i64 s.2] rfl rfl HN.out (by simp [Value.oneCell']) (by unfold maxLen; omega) (by omega) HBS.out ?_; intro v8 w8 h1 h2 _ h3; have F8 := hide (HF.out v8 w8 h1 h2 h3); clear h1 h2 h3)
   go_ret
   exact ⟨_, rfl, F8.out⟩
 · simp only [List.concat_eq_append] at *
   obtain ⟨hz3, hz4⟩ := HA.out B z rfl
   rw [List.length_append, List.length_singleton] at hl hh
   have hx : ∃ g, ao = some ⟨g, 0, none⟩ ∧ g < w.heap.size := by
    rcases hh.2 with ⟨_, hn⟩ | ⟨g, cap', cur, hv, _, hg, _⟩
    · omega
    · injection hv with e1 e2 e3
      exact ⟨g, e1, lt_of_block hg⟩
   obtain ⟨g, rfl, hg⟩ := hx
   have ha := spCells_get (B ++ [z]) B.length (by simp)
   rw [show (B ++ [z]).getD B.length (0, 0) = z by simp [List.getD_eq_getElem?_getD]] at ha
   have c2 := (hh.cellAt (B.length * 2 + 1) (by omega)).trans ha.2
   have HH := hide hh
   clear hh hat ha
   simp only [List.length_append, List.length_singleton] at *
   have hlz : decide ((B.length : Int) < 0) = false := decide_eq_false (by omega)
   have hi2 : (B.length : Int) < (B.length : Int) + 1 := by omega
   have fz : IntKind.i64.wrap (z.2 + 1) = z.2 + 1 := by simp [IntKind.wrap, IntKind.bits, IntKind.signed]; omega
   go_wp2
   generalize hW : w.alloc (.cells #[.int .i64 s.1, .int .i64 s.2] 175) = W
   have q1 : W.cell? ⟨w.heap.size, 0, none⟩ = some (.int .i64 s.1) := by rw [← hW]; simp
   have q2 : W.cell? ⟨w.heap.size, 1, none⟩ = some (.int .i64 s.2) := by rw [← hW]; simp
   have hwb : Below w.heap.size w W := by rw [← hW]; exact (Below.refl _ _).alloc (Nat.le_refl _) _
   have hws : w.heap.size < W.heap.size := by rw [← hW]; simp
   have q3 : W.cell? ⟨g, B.length * 2 + 1, none⟩ = some (.int .i64 z.2) := (hwb.cell (p := ⟨g, _, none⟩) hg).trans c2
   have hgw : g < W.heap.size := by omega
   have HD : Hid (Below W.heap.size W W.drew) := (Below.refl _ _).drew
   clear hW c2
   by_cases hgt : s.1 > z.2 + 1
   · have hgd : decide (z.2 + 1 < s.1) = true := decide_eq_true hgt
     refine wp_region_quiet (C := fun w' => Below W.heap.size W w') (by kernel_rfl) (by kernel_rfl) HD.out ?_
     refine QW.out (l := _ :: _) ?_
     iterate 13 (refine QW.take (by rfl) ?_; apply Exists.intro; refine ⟨fun w' hw' => ?_, ?_⟩; (· (have g1 := (hw'.cell (p := ⟨w.heap.size, 0, none⟩) hws).trans q1; have g2 := (hw'.cell (p := ⟨w.heap.size, 1, none⟩) hws).trans q2; have g3 := (hw'.cell (p := ⟨g, B.length * 2 + 1, none⟩) hgw).trans q3; go_simp; first | done | ((try simp only [hlz, fz, hgd]); first | done | rfl))); try simp only [Act.put, List.setIfInBounds_toArray, List.set_cons_zero, List.set_cons_succ])
     refine QW.nil ?_
     intro w2 x2
     clear HD q3 hgw
     have r1 := (x2.cell (p := ⟨w.heap.size, 0, none⟩) hws).trans q1
     have r2 := (x2.cell (p := ⟨w.heap.size, 1, none⟩) hws).trans q2
     have hb2 : Below w.heap.size w w2 := hwb.trans (x2.mono (Nat.le_of_lt hws))
     have hb3 : Below w.heap.size w (w2.alloc (.cells #[.int .i64 s.1, .int .i64 s.2] 175)) := hb2.alloc hb2.size _
     have HB3 := hide hb3
     have HN := hide (new_cells w2 s w2.heap.size rfl)
     have HO3 : Hid ((w2.alloc (.cells #[.int .i64 s.1, .int .i64 s.2] 175)).ownsRow base 175 2 (.slice (some ⟨g, 0, none⟩) (B.length + 1) cap) (B.length + 1) (spCells (B ++ [z]))) := by have := HO.out.below hb3; unfold OwnS at this; rw [List.length_append, List.length_singleton] at this; exact this
     have hbs : base ≤ (w2.alloc (.cells #[.int .i64 s.1, .int .i64 s.2] 175)).heap.size := by have := hb3.size; omega
     have HBS := hide hbs
     have HF : Hid (∀ v' w8, w8.ownsRow base 175 2 v' ((B.length + 1) + 1) (spCells (B ++ [z]) ++ [.int .i64 s.1, .int .i64 s.2]) → World.grownBy (w2.alloc (.cells #[.int .i64 s.1, .int .i64 s.2] 175)) w8 (Value.ownBlock (.slice (some ⟨g, 0, none⟩) (B.length + 1) cap)) → (v'.ownBlock = Value.ownBlock (.slice (some ⟨g, 0, none⟩) (B.length + 1) cap) ∨ v'.ownBlock = some (w2.alloc (.cells #[.int .i64 s.1, .int .i64 s.2] 175)).heap.size) →
      OwnS w8 base v' ((B ++ [z]) ++ [s]) ∧ Kept (isRow (.slice (some ⟨g, 0, none⟩) (B.length + 1) cap)) w w8 ∧ (v'.ownBlock = Value.ownBlock (.slice (some ⟨g, 0, none⟩) (B.length + 1) cap) ∨ ∃ k, v'.ownBlock = some k ∧ w.heap.size ≤ k)) := by
      intro v' w8 h1 h2 h3
      refine ⟨?_, (Kept.of_below HB3.out).grown h2 (fun k hk => hk), ?_⟩
      · unfold OwnS
        rw [spCells_snoc, List.length_append]
        simpa using h1
      · rcases h3 with h | h
        · exact .inl h
        · exact .inr ⟨_, h, HB3.out.size⟩
     clear x2 q1 q2 hb2 hb3 hbs hwb hws
     go_wp2_with (at_builtin; refine wpList_append_own_at _ rfl (.tmp 22) (.tmp 24) 94 rfl base 175 i0 (.agg #[.int .i64 0, .int .i64 0]) 2 16 Tryz.underlying94 hi hz0 hz1 hz2 rfl (by decide) _ (B.length + 1) (spCells (B ++ [z])) rfl HO3.out ⟨w2.heap.size, 0, none⟩ 1 1 [.int .i64 s.1, .int .i64 s.2] rfl rfl HN.out (by simp [Value.oneCell']) (by unfold maxLen; omega) (by omega) HBS.out ?_; intro v8 w8 h1 h2 _ h3; have F8 := hide (HF.out v8 w8 h1 h2 h3); clear h1 h2 h3)
     go_ret
     exact ⟨_, rfl, by rw [joinL_last, if_pos hgt]; exact F8.out.1, F8.out.2⟩
   · have hgd : decide (z.2 + 1 < s.1) = false := decide_eq_false hgt
     refine wp_region_quiet (C := fun w' => Below W.heap.size W w') (by kernel_rfl) (by kernel_rfl) HD.out ?_
     refine QW.out (l := _ :: _) ?_
     iterate 13 (refine QW.take (by rfl) ?_; apply Exists.intro; refine ⟨fun w' hw' => ?_, ?_⟩; (· (have g1 := (hw'.cell (p := ⟨w.heap.size, 0, none⟩) hws).trans q1; have g2 := (hw'.cell (p := ⟨w.heap.size, 1, none⟩) hws).trans q2; have g3 := (hw'.cell (p := ⟨g, B.length * 2 + 1, none⟩) hgw).trans q3; go_simp; first | done | ((try simp only [hlz, fz, hgd]); first | done | rfl))); try simp only [Act.put, List.setIfInBounds_toArray, List.set_cons_zero, List.set_cons_succ])
     refine QW.nil ?_
     intro w2 x2
     have r2 := (x2.cell (p := ⟨w.heap.size, 1, none⟩) hws).trans q2
     have r3 := (x2.cell (p := ⟨g, B.length * 2 + 1, none⟩) hgw).trans q3
     have hb2 : Below w.heap.size w w2 := hwb.trans (x2.mono (Nat.le_of_lt hws))
     have HO2 := hide (HO.out.below hb2)
     have f3 : w2.frozen? ⟨g, B.length * 2 + 1, none⟩ = false := by
      have hh : w2.ownsRow base 175 2 (.slice (some ⟨g, 0, none⟩) (B.length + 1) cap) (B.length + 1) (spCells (B ++ [z])) := by have := HO2.out; unfold OwnS at this; simpa using this
      exact hh.frozenAt _
     have HB2 := hide hb2
     clear HD q3 hgw q1 q2 hws hwb x2 hb2
     go_wp2
     go_region
     go_wp2
     go_ret
     have hh : w2.ownsRow base 175 2 (.slice (some ⟨g, 0, none⟩) (B.length + 1) cap) (B.length + 1) (spCells (B ++ [z])) := by have := HO2.out; unfold OwnS at this; simpa using this
     obtain ⟨s1, s2⟩ := hh.stored (B.length * 2 + 1) (.int .i64 (max z.2 s.2))
     rw [spCells_setLast] at s1
     refine ⟨_, rfl, ?_, ?_, .inl rfl⟩
     · rw [joinL_last, if_neg (by omega)]
       unfold OwnS
       rw [List.length_append, List.length_singleton]
       exact s1
     · exact ((Kept.of_below HB2.out).grown s2 (fun k hk => hk)).drew
theorem cmpC_any (x y : Spn) (W : World) : Calls Tryz.prog 148 #[.agg #[.int .i64 x.1, .int .i64 x.2], .agg #[.int .i64 y.1, .int .i64 y.2]] W fun e w' => e = .returned (.int .i64 (Lib.compareInt x.1 y.1)) ∧ ∃ q os', w' = grow (W.drewN q) os' := by
 have hcon := fun W' => AnyG.cmp_Compare_int Tryz.cmpInt x.1 y.1 W'
 change ∀ W', Calls Tryz.prog 129 _ _ _ at hcon
 generalize Lib.compareInt x.1 y.1 = r at hcon ⊢
 go_enter Tryz.func148, Tryz.ntmps148
 go_wp2_with (go_at_call 129; refine (hcon _).mono ?_; rintro e w' ⟨rfl, rfl⟩)
 go_ret
 exact ⟨rfl, 0, _, by rw [alloc_eq_grow, alloc_eq_grow, grow_grow]; rfl⟩
def encS (x : Spn) : List Value := [.int .i64 x.1, .int .i64 x.2]
theorem ltLo (x y : Spn) : ltOf (fun x y : Spn => Lib.compareInt x.1 y.1) x y = decide (x.1 < y.1) := by
 unfold ltOf Lib.compareInt
 by_cases h1 : x.1 < y.1
 · simp [h1]
 · by_cases h2 : y.1 < x.1 <;> simp [h1, h2]
theorem swoLo : SWO (ltOf fun x y : Spn => Lib.compareInt x.1 y.1) where
 irrefl x := by rw [ltLo]; simp
 trans x y z h1 h2 := by rw [ltLo] at *; simp at *; omega
 ntrans x y z h1 h2 := by rw [ltLo] at *; simp at *; omega
theorem perm_all {α : Type} [Inhabited α] {d d' : Array α} (h : PermIn 0 d.size d d') : d'.toList.Perm d.toList := by
 have h2 := h.2.2
 have e1 : (d'.extract 0 d.size).toList = d'.toList := by rw [← h.1]; simp
 have e2 : (d.extract 0 d.size).toList = d.toList := by simp
 rwa [e1, e2] at h2
theorem sort_any (w : World) (base g cap : Nat) (L : List Spn) (hown : OwnS w base (.slice (some ⟨g, 0, none⟩) L.length cap) L) (hsz : L.length < 4611686018427387904) :
 Calls Tryz.prog 147 #[.slice (some ⟨g, 0, none⟩) L.length cap, .func (.func 148) #[] #[]] w fun e w' => e = .returned (.tuple #[]) ∧ ∃ M : List Spn, M.Perm L ∧ M.Pairwise (fun s t => s.1 ≤ t.1) ∧ SpAt w' (some ⟨g, 0, none⟩) M ∧ Kept (fun k => k = g) w w' := by
 have eg : ∀ args w, (callFunc 148 args).run Tryz.prog w = .ok (.enter 148 args) w := enters_of Tryz.func148 (by kernel_rfl) rfl
 have hh : w.ownsRow base 175 2 (.slice (some ⟨g, 0, none⟩) L.length cap) L.length (spCells L) := hown
 have hg : g < w.heap.size := (hown.lt g rfl).2
 have hH : HoldsK encS 2 w g 0 L.toArray := by
  intro j hj
  rw [size_flatK] at hj
  have hj' : j < L.length * 2 := by simpa using hj
  refine ⟨?_, hh.frozenAt _⟩
  rw [Nat.zero_add, hh.cellAt j hj', get_flatK _ _ _ _ (by simpa using hj')]
  have hi : j / 2 < L.length := by omega
  obtain ⟨a1, a2⟩ := spCells_get L (j / 2) hi
  rcases Nat.mod_two_eq_zero_or_one j with hm | hm
  · rw [show j / 2 * 2 = j by omega] at a1
    rw [a1, hm]
    simp [encS, List.getD_eq_getElem?_getD, hi]
  · rw [show j / 2 * 2 + 1 = j by omega] at a2
    rw [a2, hm]
    simp [encS, List.getD_eq_getElem?_getD, hi]
 have hcon := AnyQ.slices_SortFunc Tryz.sortSp 2 Tryz.isAgg175 Tryz.sizeOf175 encS (fun _ => rfl) (fun x v hv => by simp [encS] at hv; rcases hv with rfl | rfl <;> rfl) (fun x y => Lib.compareInt x.1 y.1) swoLo 148 #[] g 0 cap L.toArray w eg (fun _ _ _ _ x y => cmpC_any x y _) hH hg (by simpa using hsz)
 change Calls Tryz.prog 147 _ _ _ at hcon
 simp only [List.size_toArray] at hcon
 refine hcon.mono ?_
 rintro e w' ⟨rfl, d', n, os, hp, hs, rfl⟩
 have hsize : d'.size = L.length := by simpa using hp.1
 refine ⟨rfl, d'.toList, ?_, ?_, ?_, ?_⟩
 · have := perm_all (d := L.toArray) (by simpa using hp); simpa using this
 · rw [List.pairwise_iff_getElem]
   intro i j hi hj hij
   have := hs i j (Nat.zero_le _) hij (by simpa [hsize] using hj)
   rw [ltLo] at this
   simp only [Array.length_toList] at hi hj
   simpa [hi, hj] using this
 · have hHd : HoldsK encS 2 (sortWorldK encS 2 w g 0 n d' os) g 0 d' := by
    unfold sortWorldK
    refine holdsK_grow (enc := encS) (k := 2) _ os g 0 d' ?_ (holdsK_putRowK (enc := encS) (k := 2) (Sort.ahead w n) g 0 L.toArray d' (holdsK_ahead (enc := encS) (k := 2) w n g 0 L.toArray hH) (by simpa using hsize))
    unfold putRowK
    rw [size_putRow]
    exact hg
   refine .inr ⟨g, 0, rfl, ?_, fun i hi => ?_⟩
   · unfold sortWorldK putRowK
     rw [size_grow, size_putRow]
     exact Nat.lt_of_lt_of_le hg (Nat.le_add_right _ _)
   · have hi' : i < d'.size := by simpa using hi
     have b1 := (hHd.cell hi' (show 0 < 2 by decide)).1
     have b2 := (hHd.cell hi' (show 1 < 2 by decide)).1
     refine ⟨?_, ?_⟩
     · simpa [encS, List.getD_eq_getElem?_getD, hi'] using b1
     · simpa [encS, List.getD_eq_getElem?_getD, hi'] using b2
 · unfold sortWorldK putRowK
   refine ⟨rfl, rfl, rfl, by rw [size_grow, size_putRow]; exact Nat.le_add_right _ _, fun k hk hne => ?_⟩
   rw [heap_grow_old _ _ (by rw [size_putRow]; exact hk)]
   show (w.heap.modify g _)[k]? = _
   rw [Array.getElem?_modify, if_neg (fun h => hne h.symm)]
end Go.Proofs.YtdgoilkgplnhfaaGreat
namespace Go.Proofs.YtdgoilkgplnhfaaGreat
open Go.RowKit Go.Lib
theorem Tryz.info175' : ∃ i, Tryz.prog.info? 175 = some i ∧ i.zero = some (.agg #[.int .i64 0, .int .i64 0]) ∧ i.size = 2 ∧ i.bytes = 16 := by
 have := Tryz.info175
 cases h : Tryz.prog.info? 175 with
 | none => rw [h] at this; simp at this
 | some i =>
   rw [h] at this
   have := Option.some.inj this
   simp only [Prod.mk.injEq] at this
   exact ⟨i, rfl, this⟩
theorem addr_add (b off n : Nat) : (⟨b, off, none⟩ : Addr).add n = ⟨b, off + n, none⟩ := by unfold Addr.add; split <;> simp_all
theorem SpAt.cells {w : World} {a : Addr} {L : List Spn} (h : SpAt w (some a) L) : ∀ j u, (spCells L)[j]? = some u → w.cell? (a.add j) = some u := by
 intro j u hu
 have hj : j < L.length * 2 := by
  rw [← spCells_length]
  rcases Nat.lt_or_ge j (spCells L).length with h | h
  · exact h
  · rw [List.getElem?_eq_none h] at hu; cases hu
 obtain ⟨b, off, e, _, hc⟩ := h.get (i := j / 2) (by omega)
 cases e
 obtain ⟨a1, a2⟩ := spCells_get L (j / 2) (by omega)
 obtain ⟨c1, c2⟩ := hc (j / 2) (by omega)
 rw [addr_add]
 rcases Nat.mod_two_eq_zero_or_one j with hm | hm
 · rw [show j / 2 * 2 = j by omega] at a1 c1
   rw [hu] at a1
   rw [c1, a1]
 · rw [show j / 2 * 2 + 1 = j by omega] at a2
   rw [show off + j / 2 * 2 + 1 = off + j by omega] at c2
   rw [hu] at a2
   rw [c2, a2]
theorem clone_any (ao : Option Addr) (cap : Nat) (L : List Spn) (w : World) (hl : L.length ≤ 4294967296) (hat : SpAt w ao L) :
 Calls Tryz.prog 146 #[.slice ao L.length cap] w fun e w' => ∃ v', e = .returned v' ∧ OwnS w' w.heap.size v' L ∧ Below w.heap.size w w' := by
 obtain ⟨i0, hi, hz0, hz1, hz2⟩ := Tryz.info175'
 have hnil := fun (a : Option Addr) (n c : Nat) (W : World) => run_eql_slice_nil (P := Tryz.prog) W 94 175 a n c 0 0 Tryz.underlying94
 cases ao with
 | none =>
   have hL : L = [] := by
    rcases hat with h | ⟨b, off, e, _⟩
    · exact h
    · cases e
   subst hL
   simp only [List.length_nil]
   go_enter Tryz.func146, Tryz.ntmps146
   go_wp2
   go_ret
   exact ⟨_, rfl, OwnS.nil _ _, Below.refl _ _⟩
 | some a =>
   have hb1 : Below w.heap.size w (w.alloc (.cells #[] 175)) := (Below.refl _ _).alloc (Nat.le_refl _) _
   have HN := hide (hat.below hb1).cells
   have HO : Hid ((w.alloc (.cells #[] 175)).ownsRow w.heap.size 175 2 (.slice (some ⟨w.heap.size, 0, none⟩) 0 0) 0 []) := ⟨rfl, .inr ⟨w.heap.size, 0, #[], rfl, Nat.le_refl _, by show (w.heap.push _)[_]? = _; simp, Nat.le_refl _, by decide, rfl, rfl⟩⟩
   have HB := hide hb1
   have HL := hide (spCells_length L)
   clear hat hb1
   go_enter Tryz.func146, Tryz.ntmps146
   go_wp2_with (at_builtin; refine wpList_append_own_at _ rfl (.tmp 5) (.tmp 6) 94 rfl w.heap.size 175 i0 (.agg #[.int .i64 0, .int .i64 0]) 2 16 Tryz.underlying94 hi hz0 hz1 hz2 rfl (by decide) _ 0 [] rfl HO.out a L.length cap (spCells L) rfl HL.out HN.out (spCells_one L) (by unfold maxLen; omega) (by omega) HB.out.size ?_; intro v8 w8 h1 h2 _ h3; have H1 := hide h1; have H2 := hide h2; clear h1 h2 h3)
   go_ret
   refine ⟨_, rfl, ?_, HB.out.grown H2.out HB.out.size (fun k hk => by cases hk; exact Nat.le_refl _)⟩
   have := H1.out
   rw [Nat.zero_add, List.nil_append] at this
   exact this
theorem take_last {A : List Spn} (h : IsSet A) : ∀ B z, A = B ++ [z] → 0 ≤ z.2 ∧ z.2 ≤ 4294967295 := by
 rintro B z rfl
 have := h.1 z (by simp)
 unfold Bnd at this
 omega
theorem take_getD (M : List Spn) (k : Nat) (hk : k < M.length) : M.take (k + 1) = M.take k ++ [M.getD k (0, 0)] := by
 rw [List.take_succ_eq_append_getElem hk]
 simp [List.getD_eq_getElem?_getD, hk]
theorem make_any (ao : Option Addr) (cap : Nat) (L : List Spn) (w : World) (hl : L.length ≤ 4294967296) (hat : SpAt w ao L) :
 Calls Tryz.prog 126 #[.slice ao L.length cap] w fun e w' => Below w.heap.size w w' ∧
  (((∀ s ∈ L, Bnd s) ∧ ∃ v' M, e = .returned (.tuple #[v', .int .i64 0]) ∧ OwnS w' w.heap.size v' M ∧ IsSet M ∧ (∀ n, memB n M = memB n L) ∧ M.length ≤ L.length) ∨
   ((¬ ∀ s ∈ L, Bnd s) ∧ e = .returned (.tuple #[.slice none 0 0, .int .i64 20]))) := by
 go_enter Tryz.func126, Tryz.ntmps126
 go_wp2
 go_loopw [12] (fun i wr => ∃ k : Nat, k ≤ L.length ∧ i = .int .i64 k ∧ Hid (∀ j, j < k → Bnd (L.getD j (0, 0))) ∧ Below w.heap.size w wr) (fun i _ => L.length - (intOf i).toNat)
 case atStart => exact ⟨0, Nat.zero_le _, rfl, fun j hj => absurd hj (by omega), Below.refl _ _⟩
 case round =>
  obtain ⟨k, hk, rfl, hok, hq⟩ := hrel
  have HQ := hide hq
  clear hq
  by_cases hlt : k < L.length
  · obtain ⟨b, off, rfl, hb, hc⟩ := hat.get hlt
    obtain ⟨c1, c2⟩ := (hc k hlt).below HQ.out hb
    obtain ⟨s, hs⟩ : ∃ s, s = L.getD k (0, 0) := ⟨_, rfl⟩
    rw [← hs] at c1 c2
    have HS := hide hs
    have hcon := bounded_any s.1 s.2 (wr.alloc (.cells #[.int .i64 s.1, .int .i64 s.2] 175))
    have hb1 : Below w.heap.size w (wr.alloc (.cells #[.int .i64 s.1, .int .i64 s.2] 175)) := HQ.out.trans (((Below.refl _ _).alloc (Nat.le_refl _) _).mono HQ.out.size)
    have HB1 := hide hb1
    clear hs hc hat hb1
    by_cases hbd : Bnd s
    · rw [decide_eq_true hbd] at hcon
      go_wp2_with (go_at_call 145; refine hcon.mono ?_; rintro e w2 ⟨rfl, x2⟩; have X2 := hide x2; clear x2)
      go_roundw
      case rel =>
       refine ⟨k + 1, by omega, by go_num, fun j hj => ?_, HB1.out.trans (X2.out.mono HB1.out.size)⟩
       rcases Nat.lt_or_ge j k with h | h
       · exact hok.out j h
       · rw [show j = k by omega, ← HS.out]; exact hbd
      case measure => simp [intOf]; omega
    · rw [decide_eq_false hbd] at hcon
      go_wp2_with (go_at_call 145; refine hcon.mono ?_; rintro e w2 ⟨rfl, x2⟩; have X2 := hide x2; clear x2)
      go_ret2
      refine ⟨HB1.out.trans (X2.out.mono HB1.out.size), .inr ⟨fun h => hbd ?_, rfl⟩⟩
      rw [HS.out]
      have := h L[k] (List.getElem_mem hlt)
      simpa [List.getD_eq_getElem?_getD, hlt] using this
  · have h8 : k = L.length := by omega
    subst h8
    have hall : ∀ s ∈ L, Bnd s := fun s hs => by
     obtain ⟨i, hi, rfl⟩ := List.getElem_of_mem hs
     simpa [List.getD_eq_getElem?_getD, hi] using hok.out i hi
    have hcl := clone_any ao cap L wr hl (hat.below (HQ.out.mono (Nat.le_refl _)))
    have HALL := hide hall
    clear hall hat
    have hso : ∀ (v1 : Value) (w1 : World), OwnS w1 wr.heap.size v1 L → Below wr.heap.size wr w1 → Calls Tryz.prog 147 #[v1, .func (.func 148) #[] #[]] w1 fun e w' => e = .returned (.tuple #[]) ∧ ∃ (a1 : Option Addr) (c1 : Nat) (M : List Spn), v1 = .slice a1 L.length c1 ∧ M.Perm L ∧ M.Pairwise (fun s t => s.1 ≤ t.1) ∧ SpAt w' a1 M ∧ Below wr.heap.size wr w' := by
     intro v1 w1 ho hb
     have hh : w1.ownsRow wr.heap.size 175 2 v1 L.length (spCells L) := ho
     rcases hh.2 with ⟨rfl, hn⟩ | ⟨g, cap', cur, rfl, hbg, hg, _⟩
     · have hL := List.length_eq_zero_iff.1 hn
       subst hL
       have := AnyF.slices_SortFunc_none Tryz.sortSp none 0 (.func (.func 148) #[] #[]) w1
       change Calls Tryz.prog 147 _ _ _ at this
       refine this.mono ?_
       rintro e w' ⟨rfl, rfl⟩
       exact ⟨rfl, none, 0, [], rfl, List.Perm.refl _, List.Pairwise.nil, .inl rfl, hb⟩
     · refine (sort_any w1 wr.heap.size g cap' L ho (by omega)).mono ?_
       rintro e w' ⟨rfl, M, m1, m2, m3, m4⟩
       exact ⟨rfl, _, cap', M, rfl, m1, m2, m3, hb.trans (m4.below hb.size (fun i hi => by subst hi; exact hbg))⟩
    go_wp2_with (first | (go_at_call 146; refine hcl.mono ?_; rintro e w1 ⟨v1, rfl, o1, x1⟩; have O1 := hide o1; have X1 := hide x1; clear o1 x1) | (go_at_call 147; refine (hso _ _ O1.out X1.out).mono ?_; rintro e w2 ⟨rfl, a1, c1, M, hv1, m1, m2, m3, x2⟩; subst hv1; have M1 := hide m1; have M2 := hide m2; have M3 := hide m3; have X2 := hide x2; clear m1 m2 m3 x2))
    have hml : M.length = L.length := M1.out.length_eq
    have HBW : Hid (Below w.heap.size w w2) := HQ.out.trans (X2.out.mono HQ.out.size)
    have HMB : Hid (∀ s ∈ M, Bnd s) := fun s hs => HALL.out s (M1.out.mem_iff.1 hs)
    clear hcl hso
    go_loopw [7, 26] (fun o i wk => ∃ k : Nat, k ≤ L.length ∧ i = .int .i64 k ∧ Hid (OwnS wk w2.heap.size o (joinAll (M.take k))) ∧ Below w2.heap.size w2 wk) (fun _ i _ => L.length - (intOf i).toNat)
    case atStart => exact ⟨0, Nat.zero_le _, rfl, OwnS.nil _ _, Below.refl _ _⟩
    case round =>
     obtain ⟨k, hk, rfl, ho, hq⟩ := hrel
     have HQ2 := hide hq
     clear hq
     by_cases hlt : k < L.length
     · obtain ⟨b, off, rfl, hb, hc⟩ := M3.out.get (i := k) (by omega)
       obtain ⟨q1, q2⟩ := (hc k (by omega)).below HQ2.out hb
       obtain ⟨s, hs⟩ : ∃ s, s = M.getD k (0, 0) := ⟨_, rfl⟩
       rw [← hs] at q1 q2
       have hst := take_getD M k (by omega)
       rw [← hs] at hst
       have HST := hide hst
       have hA := (joinAll_spec _ (M.take k) rfl (fun s hs => HMB.out s (List.mem_of_mem_take hs)) (M2.out.sublist (List.take_sublist k M))).1
       have hb1 : Below w2.heap.size w2 (wr.alloc (.cells #[.int .i64 s.1, .int .i64 s.2] 175)) := HQ2.out.trans (((Below.refl _ _).alloc (Nat.le_refl _) _).mono HQ2.out.size)
       have HB1 := hide hb1
       have hjl := joinAll_length (M.take k)
       rw [List.length_take] at hjl
       have hcon := joined_any (wr.alloc (.cells #[.int .i64 s.1, .int .i64 s.2] 175)) w2.heap.size u7 (joinAll (M.take k)) s (ho.out.below ((Below.refl _ _).alloc (Nat.le_refl _) _)) hb1.size (by omega) (take_last hA)
       have HLT := hide (ho.out.lt)
       clear hs hc hst hA hb1 hjl ho
       go_wp2_with (go_at_call 149; refine hcon.mono ?_; rintro e w3 ⟨v3, rfl, o3, k3, _⟩; have O3 := hide o3; have K3 := hide k3; clear o3 k3)
       go_roundw
       case rel => exact ⟨k + 1, by omega, by go_num, by rw [HST.out, joinAll_snoc]; exact O3.out, HB1.out.trans (K3.out.below HB1.out.size (fun i hi => (HLT.out i hi).1))⟩
       case measure => simp [intOf]; omega
     · have h8 : k = L.length := by omega
       subst h8
       have e1 : M.take L.length = M := by rw [← hml, List.take_length]
       rw [e1] at ho
       go_wp2
       go_ret2
       obtain ⟨j1, j2, _⟩ := joinAll_spec _ M rfl HMB.out M2.out
       refine ⟨HBW.out.trans (HQ2.out.mono HBW.out.size), .inl ⟨HALL.out, u7, joinAll M, rfl, ho.out.mono HBW.out.size, j1, fun n => ?_, by have := joinAll_length M; omega⟩⟩
       rw [j2, Bool.eq_iff_iff, memB_iff, memB_iff]
       exact ⟨fun ⟨s, h1, h2⟩ => ⟨s, M1.out.mem_iff.1 h1, h2⟩, fun ⟨s, h1, h2⟩ => ⟨s, M1.out.mem_iff.2 h1, h2⟩⟩
end Go.Proofs.YtdgoilkgplnhfaaGreat
