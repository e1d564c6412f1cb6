/-
  The sets of places that bytes lead to, by columns: what their automaton says of texts. Of no program: the conditions are named.
-/
import Derived.Test.YtdgoilkgplnhfaaGreatB24
import Derived.Test.YtdgoilkgplnhfaaGreatB39
import Derived.Test.YtdgoilkgplnhfaaGreatB22
import Derived.Test.YtdgoilkgplnhfaaGreatB19
namespace Go.Proofs.YtdgoilkgplnhfaaGreat
open Go.RowKit Go.Lib Go.Maps

/-- Where it begins. -/
def plZ (L : List Pc) : List Bool := plL (clF L (upd (fun _ => false) 0) L.length)
/-- Where a column leads. -/
def plC (L : List Pc) (fst : List Nat) (B : List Bool) (c : Nat) : List Bool := plL (clF L (agF L (plF B) (fun i => tq L 256 0 (gN fst c * 64 + i)) L.length) L.length)
theorem tq_at {L : List Pc} (hl : L.length ≤ 64) {q i : Nat} (hq : q < 256) (hi : i < L.length) : tq L 256 0 (q * 64 + i) = tkB (L.getD i zPc) ((q : Nat) : Int) := by
  have e1 : (q * 64 + i) / 64 = q := by omega
  have e2 : (q * 64 + i) % 64 = i := by omega
  unfold tq
  rw [e1, e2]
  simp [hq, hi]
theorem agF_af {L : List Pc} {f g : Nat → Bool} {b : Int} : ∀ (n : Nat), (∀ j, j < n → g j = tkB (L.getD j zPc) b) → agF L f g n = afF L f b n
  | 0, _ => rfl
  | n + 1, h => by
    have ih := agF_af (f := f) n (fun j hj => h j (by omega))
    have e := h n (by omega)
    unfold zPc at e
    unfold agF afF
    rw [ih, e]
theorem mk64_inj {f g : Nat → Bool} (h : mk64 f = mk64 g) {i : Nat} (hi : i < 64) : f i = g i := by
  have e : (mk64 f)[i]? = (mk64 g)[i]? := by rw [h]
  rw [mk64_get f i hi, mk64_get g i hi] at e
  injection e with e
  injection e
section
variable {L : List Pc} {num fst : List Nat} {lit : Nat → Lit}
/-- Columns lead as their bytes do. -/
theorem plC_is (hl : L.length ≤ 64) (nf : NumF lit 256 (gN num) (gN fst) fst.length) (hlit : ∀ b c, b < 256 → c < 256 → lit b = lit c → mk64 (fun i => tq L 256 0 (b * 64 + i)) = mk64 (fun i => tq L 256 0 (c * 64 + i))) (B : List Bool) {b : Nat} (hb : b < 256) : plC L fst B (gN num b) = plS L B b := by
  have hq := nf.fstlt _ (nf.numlt b hb)
  have hk := hlit _ _ hq hb (nf.lk b hb)
  unfold plC plS
  congr 1
  unfold stF
  rw [agF_af L.length (fun j hj => ?_)]
  have e := mk64_inj hk (show j < 64 by omega)
  rw [e, tq_at hl hb hj]
  have e2 : (UInt8.ofNat b).toNat = b := by simp; omega
  rw [e2]
theorem plC_run (hl : L.length ≤ 64) (nf : NumF lit 256 (gN num) (gN fst) fst.length) (hlit : ∀ b c, b < 256 → c < 256 → lit b = lit c → mk64 (fun i => tq L 256 0 (b * 64 + i)) = mk64 (fun i => tq L 256 0 (c * 64 + i))) : ∀ (t : List Nat) (B : List Bool), Txt t → t.foldl (fun x b => plC L fst x (gN num b)) B = t.foldl (plS L) B
  | [], _, _ => rfl
  | b :: t, B, ht => by
    rw [List.foldl_cons, List.foldl_cons, plC_is hl nf hlit B ht.tail.1]
    exact plC_run hl nf hlit t _ ht.tail.2
theorem plC_cols (hl : L.length ≤ 64) (nf : NumF lit 256 (gN num) (gN fst) fst.length) (hlit : ∀ b c, b < 256 → c < 256 → lit b = lit c → mk64 (fun i => tq L 256 0 (b * 64 + i)) = mk64 (fun i => tq L 256 0 (c * 64 + i))) : ∀ (u : List Nat) (B : List Bool), (∀ c ∈ u, c < fst.length) → u.foldl (plC L fst) B = (u.map (gN fst)).foldl (plS L) B ∧ Txt (u.map (gN fst))
  | [], _, _ => ⟨rfl, Txt.nil⟩
  | c :: u, B, hu => by
    have hc := hu c List.mem_cons_self
    obtain ⟨h1, h2⟩ := plC_cols hl nf hlit u (plC L fst B c) (fun x hx => hu x (List.mem_cons_of_mem _ hx))
    have h3 := plC_is hl nf hlit B (nf.fstlt c hc)
    rw [nf.numfst c hc] at h3
    refine ⟨?_, Txt.cons (nf.fstlt c hc) h2⟩
    rw [List.foldl_cons, List.map_cons, List.foldl_cons, h1, h3]
end
/-- A text as bytes. -/
theorem txt_nt {t : List Nat} (ht : Txt t) : ntL (btOf t) = t := by
  unfold ntL btOf
  rw [List.map_map]
  conv => rhs; rw [← List.map_id t]
  apply List.map_congr_left
  intro b hb
  have := ht b hb
  simp
  omega
theorem plS_run {L : List Pc} (hl : L.length ≤ 64) {t : List Nat} (ht : Txt t) : t.foldl (plS L) (plZ L) = plL (mtF L (btOf t)) := by
  have := mtF_pl hl (btOf t) (clF L (upd (fun _ => false) 0) L.length)
  rw [txt_nt ht] at this
  exact this
/-- More than 256 sets of places. -/
def OfMany (L : List Pc) : Prop := ∃ B : List (List Bool), B.length = 257 ∧ (∀ a, a < 257 → ∀ b, b < 257 → gS (plZ L) B a = gS (plZ L) B b → a = b) ∧ ∀ a, a < 257 → ∃ t : By, gS (plZ L) B a = plL (mtF L t)
/-- At most 256 of them. -/
def OfFew (L : List Pc) : Prop := ∃ B : List (List Bool), B.length ≤ 256 ∧ ∀ t : By, ∃ a, a < B.length ∧ gS (plZ L) B a = plL (mtF L t)
theorem few_not_many {L : List Pc} (h : OfFew L) (k : OfMany L) : False := by
  obtain ⟨A, hA, hA2⟩ := h
  obtain ⟨B, hB, hB1, hB2⟩ := k
  have h1 : ∀ a, a < 257 → ∃ c, c < A.length ∧ gS (plZ L) A c = gS (plZ L) B a := fun a ha => by
    obtain ⟨t, ht⟩ := hB2 a ha
    obtain ⟨c, hc, e⟩ := hA2 t
    exact ⟨c, hc, by rw [e, ht]⟩
  have h2 : ∃ f : Nat → Nat, ∀ a, a < 257 → f a < A.length ∧ gS (plZ L) A (f a) = gS (plZ L) B a := by
    classical
    exact ⟨fun a => if h : a < 257 then (h1 a h).choose else 0, fun a ha => by simp only [dif_pos ha]; exact (h1 a ha).choose_spec⟩
  obtain ⟨f, hf⟩ := h2
  have := pigeon A.length 257 f (fun a ha => (hf a ha).1) (fun a ha b hb e => hB1 a ha b hb (by rw [← (hf a ha).2, ← (hf b hb).2, e]))
  omega
end Go.Proofs.YtdgoilkgplnhfaaGreat
/-
  Keys that are structs of one array of 65 bools: they are read as keys, and tell just their elements. Of the program its types alone: no condition.
-/
namespace Go.Proofs.YtdgoilkgplnhfaaGreat
open Go.RowKit Go.Lib Go.Maps

theorem Tryz.info80b : (Tryz.prog.info? 80).map (fun i => (i.zero, i.size, i.bytes)) = some (some (.agg (mk fun _ => false)), 65, 65) := by kernel_rfl
theorem cells80 : Tryz.prog.cellsOf 80 = 65 ∧ Tryz.prog.cellsOf 78 = 65 ∧ Tryz.prog.cellsOf 4 = 1 := ⟨by kernel_rfl, by kernel_rfl, by kernel_rfl⟩
theorem ktype80 : Tryz.prog.keyType 80 = true := by kernel_rfl
theorem keyOf_places (B : List Bool) (hl : B.length = 65) : ∃ l, keyOf Tryz.prog 80 (.agg (B.map fun (b : Bool) => Value.bool b).toArray) = some l := by
  obtain ⟨c1, c2, c3⟩ := cells80
  have hlits : ∃ ls, Tryz.prog.keyLits (Tryz.prog.types.size + 1) 80 (B.map fun (b : Bool) => Value.bool b) = some ls := by
    rw [size_types]
    unfold Program.keyLits
    simp only [Tryz.underlying80]
    have hlen : (B.map fun (b : Bool) => Value.bool b).length = 65 := by rw [List.length_map, hl]
    rw [if_pos ⟨by rw [hlen, c1], by first | (simp; done) | kernel_rfl⟩]
    have h71 : ∃ ls, Tryz.prog.keyLits 253 78 (B.map fun (b : Bool) => Value.bool b) = some ls := by
      unfold Program.keyLits
      simp only [Tryz.underlying78]
      rw [if_pos (by rw [hlen, c2]), mapM_some _ (fun i => [Lit.bool (B.getD i false)]) (List.range 65) (fun i hi => ?_)]
      · exact ⟨_, rfl⟩
      · have hi' : i < B.length := by rw [hl]; exact List.mem_range.1 hi
        have e : ((B.map fun (b : Bool) => Value.bool b).drop (i * Tryz.prog.cellsOf 4)).take (Tryz.prog.cellsOf 4) = [.bool (B.getD i false)] := by
          rw [c3, Nat.mul_one, List.drop_eq_getElem_cons (by rw [List.length_map]; exact hi')]
          simp [List.getD_eq_getElem?_getD, hi']
        rw [e]
        exact bool_key _ 251
    obtain ⟨ls, hls⟩ := h71
    have e : ((B.map fun (b : Bool) => Value.bool b).drop 0).take (Tryz.prog.cellsOf 78) = B.map fun (b : Bool) => Value.bool b := by
      rw [List.drop_zero, c2, List.take_of_length_le (by rw [hlen]; exact Nat.le_refl _)]
    simp only [List.mapM_cons, List.mapM_nil, e, hls]
    exact ⟨_, rfl⟩
  obtain ⟨ls, hls⟩ := hlits
  unfold keyOf
  simp only [Tryz.underlying80]
  rw [if_pos (by
    rw [ktype80]
    simp [Value.formed, Tryz.underlying80, c1, hl])]
  have e : (Value.agg (B.map fun (b : Bool) => Value.bool b).toArray).cells.toList = B.map fun (b : Bool) => Value.bool b := by simp [Value.cells]
  rw [e, hls]
  exact ⟨_, rfl⟩
theorem keyed80 : Keyed Tryz.prog 80 := Keyed.of_law (deep_law_laid (m := 254) (by kernel_rfl) (by decide) (by rw [size_types]; decide) (by kernel_rfl) (by simp [Tryz.underlying80]))
theorem keyOf_pl (B : List Bool) (hl : B.length = 65) : ∃ l, keyOf Tryz.prog 80 (.agg (mk (plF B))) = some l := by
  have e : mk (plF B) = (B.map fun (b : Bool) => Value.bool b).toArray := by
    conv => rhs; rw [← plL_plF hl]
    unfold mk plL
    rw [List.map_map]
    rfl
  rw [e]
  exact keyOf_places B hl
end Go.Proofs.YtdgoilkgplnhfaaGreat
/-
  States met, in memory: a map from states to places, a row of states, a row of places. Of the program its types alone: no condition.
-/
namespace Go.Proofs.YtdgoilkgplnhfaaGreat
open Go.RowKit Go.Lib Go.Maps

/-- The cells of some states. -/
def oC {S : Type} (val : S → Array Value) (St : List S) : List Value := St.flatMap fun s => (val s).toList
section
variable {S : Type} {val : S → Array Value}
theorem oC_snoc (St : List S) (x : S) : oC val (St ++ [x]) = oC val St ++ (val x).toList := by simp [oC]
theorem oC_get {K : Nat} : ∀ (St : List S), (∀ s ∈ St, (val s).size = K) → ∀ i (h : i < St.length) j (_ : j < K), (oC val St)[i * K + j]? = (val St[i])[j]?
  | [], _, i, h, _, _ => by simp at h
  | s :: St, hs, 0, _, j, hj => by
    have h0 := hs s List.mem_cons_self
    unfold oC
    rw [List.flatMap_cons, Nat.zero_mul, Nat.zero_add, List.getElem?_append_left (by rw [Array.length_toList, h0]; exact hj)]
    simp
  | s :: St, hs, i + 1, h, j, hj => by
    have h0 := hs s List.mem_cons_self
    have ih := oC_get St (fun t ht => hs t (List.mem_cons_of_mem _ ht)) i (by simp at h; omega) j hj
    unfold oC at ih ⊢
    rw [List.flatMap_cons, Nat.succ_mul, List.getElem?_append_right (by rw [Array.length_toList, h0]; omega), Array.length_toList, h0, show i * K + K + j - K = i * K + j by omega, ih]
    rfl
theorem oC_len {K : Nat} : ∀ (St : List S), (∀ s ∈ St, (val s).size = K) → (oC val St).length = St.length * K
  | [], _ => by simp [oC]
  | s :: St, hs => by
    have ih := oC_len St (fun t ht => hs t (List.mem_cons_of_mem _ ht))
    unfold oC at ih ⊢
    rw [List.flatMap_cons, List.length_append, ih, Array.length_toList, hs s List.mem_cons_self, List.length_cons, Nat.succ_mul]
    omega
/-- What lies in memory. -/
structure XM (T K : Nat) {S : Type} (val : S → Array Value) (w0 : World) (mb : Nat) (ks : List Lit) (sv xv : Value) (St : List S) (NX : List Nat) (w : World) : Prop where
  map : MpAt T w mb ks
  o1 : w.ownsRow w0.heap.size T K sv St.length (oC val St)
  o2 : OwnN w w0.heap.size xv NX
  ap : ∀ b, sv.ownBlock = some b → ¬ xv.ownBlock = some b
  mge : w0.heap.size ≤ mb
  bel : Below w0.heap.size w0 w
variable {T K : Nat} {w0 w w' : World} {mb : Nat} {ks : List Lit} {sv xv v' : Value} {St : List S} {NX : List Nat}
theorem XM.below (h : XM T K val w0 mb ks sv xv St NX w) (x : Below w.heap.size w w') : XM T K val w0 mb ks sv xv St NX w' :=
  ⟨h.map.below x, own_below h.o1 x, own_below h.o2 x, h.ap, h.mge, bt h.bel x (Nat.le_refl _)⟩
theorem XM.put (h : XM T K val w0 mb ks sv xv St NX w) {kl : Lit} {D : DataW Unit} (hm : kl ∉ ks) (hk : WideAt.IsKeyLit kl) (hh : ∀ kl, Maps.has D kl = true ↔ kl ∈ ks) (ha : ∀ i (h : i < ks.length), D.atKey ks[i] (.lit (.int .i64 0)) = .lit (.int .i64 (i : Int)))
    (ho : w.ownsMap Tryz.prog T (plainElem Tryz.prog 3) mb ks.length D) (h1 : w'.ownsMap Tryz.prog T (plainElem Tryz.prog 3) mb (ks.length + 1) (D.put kl (.lit (.int .i64 (ks.length : Int))))) (t4 : w.mapTurned w' mb) : XM T K val w0 mb (ks ++ [kl]) sv xv St NX w' := by
  have k4 : Kept (fun b => b = mb) w w' := (kept_of_grown t4.grown).mono (fun b hb => by injection hb with hb; exact hb.symm)
  exact ⟨MpAt.put hk hm ho.isMap hh ha h1, own_kept h.o1 k4 (fun b hb e => own_ne_map h.map h.o1 (by rw [← e]; exact hb)), own_kept h.o2 k4 (fun b hb e => own_ne_map h.map h.o2 (by rw [← e]; exact hb)), h.ap, h.mge, h.bel.trans (k4.below h.bel.size (fun i hi => by have := h.mge; omega))⟩
theorem app_keptX {w w6 : World} {v v' : Value} (g2 : AppAt w w6 v v') : ∃ F : Nat → Prop, Kept F w w6 ∧ (∀ b, F b → v.ownBlock = some b) := by
  rcases g2 with ⟨q, a, b, c⟩ | ⟨a, b⟩
  · exact ⟨fun b => some q = some b, kept_of_grown c, fun b hb => a.trans hb⟩
  · exact ⟨fun _ => False, Kept.of_below (below_of_grown a), fun b hb => hb.elim⟩
theorem app_apart {w w6 : World} {v v' u : Value} {base e size n : Nat} {xs : List Value} (g2 : AppAt w w6 v v') (hu : w.ownsRow base e size u n xs) (hap : ∀ b, v.ownBlock = some b → ¬ u.ownBlock = some b) : ∀ b, v'.ownBlock = some b → ¬ u.ownBlock = some b := fun b hb hv => by
  rcases g2 with ⟨q, a, c, _⟩ | ⟨_, c⟩
  · exact hap b (by rw [a, ← c]; exact hb) hv
  · have h1 := c b hb
    have h2 := (World.ownsRow.lt hu b hv).2
    omega
theorem XM.appS (h : XM T K val w0 mb ks sv xv St NX w) (x : S) (g1 : w'.ownsRow w0.heap.size T K v' (St.length + 1) (oC val St ++ (val x).toList)) (g2 : AppAt w w' sv v') : XM T K val w0 mb ks v' xv (St ++ [x]) NX w' := by
  obtain ⟨F, k6, hF⟩ := app_keptX g2
  refine ⟨h.map.kept k6 (fun hf => own_ne_map h.map h.o1 (hF _ hf)), ?_, own_kept h.o2 k6 (fun b hb hf => h.ap b (hF b hf) hb), app_apart g2 h.o2 h.ap, h.mge, h.bel.trans (k6.below h.bel.size (fun i hf => (World.ownsRow.lt h.o1 i (hF i hf)).1))⟩
  rw [oC_snoc, List.length_append, List.length_singleton]
  exact g1
theorem XM.appX (h : XM T K val w0 mb ks sv xv St NX w) (n : Nat) (g1 : w'.ownsRow w0.heap.size 3 1 v' (NX.length + 1) (nCells NX ++ [.int .i64 (n : Nat)])) (g2 : AppAt w w' xv v') : XM T K val w0 mb ks sv v' St (NX ++ [n]) w' := by
  obtain ⟨F, k6, hF⟩ := app_keptX g2
  have o2 : w.ownsRow w0.heap.size 3 1 xv NX.length (nCells NX) := h.o2
  refine ⟨h.map.kept k6 (fun hf => own_ne_map h.map o2 (hF _ hf)), own_kept h.o1 k6 (fun b hb hf => h.ap b hb (hF b hf)), ?_, fun b hb hv => app_apart g2 h.o1 (fun b hb hv => h.ap b hv hb) b hv hb, h.mge, h.bel.trans (k6.below h.bel.size (fun i hf => (World.ownsRow.lt o2 i (hF i hf)).1))⟩
  unfold OwnN
  rw [nCells_snoc, List.length_append, List.length_singleton]
  exact g1
/-- A state, as it lies in its row. -/
theorem XM.cells (h : XM T K val w0 mb ks sv xv St NX w) (hs : ∀ s ∈ St, (val s).size = K) {i : Nat} (hi : i < St.length) : ∃ g cap, sv = .slice (some ⟨g, 0, none⟩) St.length cap ∧ ∀ j v, (val St[i])[j]? = some v → w.cell? ((⟨g, i * K, none⟩ : Addr).add j) = some v := by
  rcases h.o1.2 with ⟨_, e1⟩ | ⟨g, cap, cur, e1, hb, hg, hnc, hcm, hcs, htake⟩
  · omega
  · refine ⟨g, cap, e1, fun j v hv => ?_⟩
    have hj : j < K := by
      have h1 := hs _ (List.getElem_mem hi)
      apply Nat.lt_of_not_le
      intro hle
      rw [Array.getElem?_eq_none (by rw [h1]; exact hle)] at hv
      cases hv
    have h2 := oC_get St hs i hi j hj
    rw [hv, ← htake, List.getElem?_take, if_pos (at_lt hi hj)] at h2
    have e2 : (⟨g, i * K, none⟩ : Addr).add j = ⟨g, i * K + j, none⟩ := by unfold Addr.add; split <;> simp_all
    rw [e2, cell_of_row _ _ _ _ _ _ hg]
    simpa using h2
end
end Go.Proofs.YtdgoilkgplnhfaaGreat
