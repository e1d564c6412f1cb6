/-
  The columns of all bytes as a text; whether a number is a label. Condition: at most 2^32 columns.
-/
import Derived.Test.YtdgoilkgplnhfaaGreatB16
import Derived.Laws.BytesArg
import Derived.Deep.DeepCutAuto
import Derived.Deep.LoopGhost
import Derived.Test.YtdgoilkgplnhfaaGreatB15
namespace Go.Proofs.YtdgoilkgplnhfaaGreat
open Go.RowKit Go.Lib

def Lab (l : Int) : Prop := 0 ≤ l ∧ l ≤ 65535
instance (l : Int) : Decidable (Lab l) := inferInstanceAs (Decidable (0 ≤ l ∧ l ≤ 65535))
set_option maxRecDepth 100000 in
theorem isLabel_any (l : Int) (w : World) : Calls Tryz.prog 64 #[.int .i64 l] w fun e w' => e = .returned (.bool (decide (Lab l))) ∧ w' = w := by
  by_cases h1 : 0 ≤ l
  · by_cases h2 : l ≤ 65535
    · have HE : Hid (decide (Lab l) = true) := decide_eq_true ⟨h1, h2⟩
      go_enter Tryz.func64, Tryz.ntmps64
      go_wp2
      go_ret
      exact ⟨by rw [HE.out]; first | rfl | simp_all, rfl⟩
    · have HE : Hid (decide (Lab l) = false) := decide_eq_false (fun h => h2 h.2)
      go_enter Tryz.func64, Tryz.ntmps64
      go_wp2
      go_ret
      exact ⟨by rw [HE.out]; first | rfl | simp_all, rfl⟩
  · have HE : Hid (decide (Lab l) = false) := decide_eq_false (fun h => h1 h.1)
    go_enter Tryz.func64, Tryz.ntmps64
    go_wp2
    go_ret
    exact ⟨by rw [HE.out]; first | rfl | simp_all, rfl⟩
/-- Bytes in a row of their own. -/
def uCells (L : List Nat) : List Value := L.map fun (n : Nat) => Value.int .u8 (n : Int)
def OwnU (w : World) (base : Nat) (v : Value) (L : List Nat) : Prop := w.ownsRow base 5 1 v L.length (uCells L)
theorem Tryz.info5n : (Tryz.prog.info? 5).map (fun i => (i.zero, i.size, i.bytes)) = some (some (.int .u8 0), 1, 1) := by kernel_rfl
theorem made_bytes (n : Nat) : (madeCells (Value.int .u8 0).cells (n * 1)).toList = uCells (List.replicate n 0) := by
  unfold uCells
  simp only [madeCells, Value.cells, List.map_replicate, Nat.mul_one]
  rw [List.eq_replicate_iff]
  refine ⟨by simp, fun b hb => ?_⟩
  simp only [Array.toList_map, List.mem_map] at hb
  obtain ⟨x, _, rfl⟩ := hb
  simp [Nat.mod_one]
theorem OwnU.slot {w : World} {base g n : Nat} {L : List Nat} (h : OwnU w base (.slice (some ⟨g, 0, none⟩) n n) L) {i : Nat} (hi : i < L.length) : n = L.length ∧ w.cell? ⟨g, i, none⟩ = some (.int .u8 (L[i] : Int)) ∧ w.frozen? ⟨g, i, none⟩ = false := by
  have hh : w.ownsRow base 5 1 (.slice (some ⟨g, 0, none⟩) n n) L.length (uCells L) := h
  have hn : n = L.length := by
    rcases hh.2 with ⟨e, e2⟩ | ⟨g', c', cur, e, _⟩
    · cases e
    · injection e with _ e2 _
  subst hn
  exact ⟨rfl, by rw [hh.cellAt i (by omega)]; simp [uCells, hi], hh.frozenAt _⟩
theorem OwnU.store {w : World} {base g n : Nat} {L : List Nat} (h : OwnU w base (.slice (some ⟨g, 0, none⟩) n n) L) (hn : n = L.length) (i x : Nat) : OwnU (w.setCell ⟨g, i, none⟩ (.int .u8 (x : Int))) base (.slice (some ⟨g, 0, none⟩) n n) (L.set i x) ∧ Kept (fun k => k = g) w (w.setCell ⟨g, i, none⟩ (.int .u8 (x : Int))) := by
  subst hn
  have hh : w.ownsRow base 5 1 (.slice (some ⟨g, 0, none⟩) L.length L.length) L.length (uCells L) := h
  obtain ⟨h1, h2⟩ := hh.stored i (.int .u8 (x : Int))
  refine ⟨?_, (kept_of_grown h2).mono (fun k hk => by injection hk with hk; exact hk.symm)⟩
  unfold OwnU
  rw [List.length_set, show uCells (L.set i x) = (uCells L).set i (.int .u8 (x : Int)) by simp [uCells, List.map_set]]
  exact h1
def btOf (L : List Nat) : By := L.map UInt8.ofNat
set_option maxRecDepth 100000 in
set_option maxHeartbeats 2000000 in
theorem byteColumns_any (ao : Option Addr) (cap : Nat) (L : List Nat) (w : World) (hl : L.length ≤ 4294967296) (h256 : ∀ x ∈ L, x < 256) (hat : NAt w ao L) :
    Calls Tryz.prog 48 #[.slice ao L.length cap] w fun e w' => e = .returned (.string ⟨(btOf L).toArray⟩) ∧ Below w.heap.size w w' := by
  obtain ⟨i5, hi5, hz50, hz51, hz52⟩ := info_parts Tryz.info5n
  have HAT := hide hat
  have HX := hide h256
  clear hat h256
  go_enter Tryz.func48, Tryz.ntmps48
  go_wp2_with (at_make; refine wpList_make_full _ rfl (.tmp 7) (.tmp 7) 89 rfl w.heap.size 5 i5 (.int .u8 0) 1 Tryz.underlying89 hi5 hz50 hz51 .i64 .i64 _ _ L.length rfl rfl rfl rfl (by rw [hz52]; omega) (by unfold maxLen; omega) (Nat.le_refl _) ?_; intro w2 h1 h2; have X2 := hide (below_of_grown h2); have O2 : Hid (OwnU w2 w.heap.size (.slice (some ⟨w.heap.size, 0, none⟩) L.length L.length) (L.take 0 ++ List.replicate (L.length - 0) 0)) := (by unfold Hid OwnU; rw [made_bytes] at h1; simpa using h1); clear h1 h2)
  go_loopg [11] (L.length + 1) (fun g x wr => ∃ i : Nat, x = .int .i64 i ∧ i ≤ L.length ∧ Hid (OwnU wr w.heap.size (.slice (some ⟨w.heap.size, 0, none⟩) L.length L.length) (L.take i ++ List.replicate (L.length - i) 0)) ∧ Hid (Below w.heap.size w wr) ∧ L.length - i < g)
  case atStart => exact ⟨0, rfl, by omega, O2, X2, by omega⟩
  case round =>
    obtain ⟨i, rfl, hi1, O, XB, hg⟩ := hrel
    have HG := hide hg
    clear hg O2 X2
    by_cases hi : i < L.length
    · have hi' : (i : Int) < (L.length : Int) := by omega
      obtain ⟨b, off, rfl, hb, c0⟩ := (HAT.out.below XB.out).get hi
      have hx := HX.out L[i] (List.getElem_mem hi)
      have hll : (L.take i ++ List.replicate (L.length - i) 0).length = L.length := by simp; omega
      obtain ⟨u1, q1, q2⟩ : ∃ u, wr.cell? ⟨w.heap.size, i, none⟩ = some u ∧ wr.frozen? ⟨w.heap.size, i, none⟩ = false := by obtain ⟨_, q1, q2⟩ := O.out.slot (i := i) (by omega); exact ⟨_, q1, q2⟩
      obtain ⟨o3, k3⟩ := O.out.store hll.symm i L[i]
      have e3 : (L.take i ++ List.replicate (L.length - i) 0).set i L[i] = L.take (i + 1) ++ List.replicate (L.length - (i + 1)) 0 := by
        rw [List.set_append_right _ _ (by simp; omega), List.take_succ_eq_append_getElem hi, List.append_assoc]
        congr 1
        obtain ⟨m, hm⟩ : ∃ m, L.length - i = m + 1 := ⟨L.length - i - 1, by omega⟩
        rw [hm, show L.length - (i + 1) = m by omega, show i - (L.take i).length = 0 by simp; omega]
        rfl
      rw [e3] at o3
      have O3 := hide o3
      have X3 := hide (XB.out.trans (k3.below XB.out.size (fun k hk => by omega)))
      have f1 : IntKind.u8.wrap ((L[i] : Nat) : Int) = ((L[i] : Nat) : Int) := by simp [IntKind.wrap, IntKind.bits, IntKind.signed]; omega
      generalize L[i] = y at *
      clear o3 k3 e3 hll
      go_wp2
      go_roundg (L.length - (i + 1) + 1)
      case measure => have := HG.out; omega
      case rel => exact ⟨i + 1, by first | rfl | go_num | (congr 1; omega), by omega, O3, X3, by omega⟩
    · have hi' : ¬ (i : Int) < (L.length : Int) := by omega
      obtain rfl : i = L.length := by omega
      have o4 : OwnU wr w.heap.size (.slice (some ⟨w.heap.size, 0, none⟩) L.length L.length) L := by have := O.out; rwa [Nat.sub_self, List.replicate_zero, List.append_nil, List.take_length] at this
      have hcv : (convert 89 9 (.slice (some ⟨w.heap.size, 0, none⟩) L.length L.length)).run Tryz.prog wr = .ok (.string (strOfNums (L.map fun b : Nat => (b : Int)))) wr := by
        refine run_convert_bytes_arg wr 89 5 Tryz.underlying89 Tryz.underlying5 w.heap.size 0 L.length L.length (L.map fun b : Nat => (b : Int)) (by simp) (fun i hi => ?_) 9 Tryz.underlying9
        rw [Nat.zero_add, (o4.slot hi).2.1]
        simp [List.getD_eq_getElem?_getD, hi]
      have HE : Hid (strOfNums (L.map fun b : Nat => (b : Int)) = ⟨(btOf L).toArray⟩) := by
        unfold Hid strOfNums btOf
        rw [List.map_map]
        rfl
      rw [HE.out] at hcv
      clear o4
      go_wp2
      go_ret
      exact ⟨rfl, XB.out⟩
end Go.Proofs.YtdgoilkgplnhfaaGreat
/-
  Parts of states, split further and further by one part after the other, each once: in the end they are the states of the same labels. Of no program: no condition.
-/
namespace Go.Proofs.YtdgoilkgplnhfaaGreat

/-- Parts ahead of k have been gone through. -/
structure HopS (D : DF) (k m : Nat) (f : Nat → Nat) : Prop where
  lt : ∀ s, s < D.n → f s < m
  co : ∀ s, s < D.n → ∀ t, t < D.n → D.Eqv s t → f s = f t
  ou : ∀ s, s < D.n → ∀ t, t < D.n → f s = f t → D.ou s = D.ou t
  hop : ∀ s, s < D.n → ∀ t, t < D.n → f s = f t → ∀ c, c < D.W → f (D.nx s c) = f (D.nx t c) ∨ k ≤ f (D.nx s c) ∨ k ≤ f (D.nx t c)
/-- Split by the part k, as it stood at first, by the columns ahead of C. -/
structure SplS (D : DF) (k m0 : Nat) (f0 : Nat → Nat) (C m : Nat) (f : Nat → Nat) : Prop where
  lt : ∀ s, s < D.n → f s < m
  mle : m0 ≤ m
  re : ∀ s, s < D.n → ∀ t, t < D.n → f s = f t → f0 s = f0 t
  st : ∀ c, c < C → ∀ s, s < D.n → ∀ t, t < D.n → f s = f t → (f0 (D.nx s c) = k ↔ f0 (D.nx t c) = k)
  kp : ∀ s, s < D.n → f s = f0 s ∨ m0 ≤ f s
  co : ∀ s, s < D.n → ∀ t, t < D.n → D.Eqv s t → f s = f t
section
variable {D : DF} {k m m0 C : Nat} {f f0 : Nat → Nat}
theorem SplS.start (h : HopS D k m f) : SplS D k m f 0 m f :=
  ⟨h.lt, Nat.le_refl _, fun _ _ _ _ e => e, fun c hc => by omega, fun _ _ => .inl rfl, h.co⟩
theorem SplS.next (hD : D.Pre) (h0 : HopS D k m0 f0) (h : SplS D k m0 f0 C m f) (hC : C < D.W) {m' : Nat} {f' : Nat → Nat} (hm : m ≤ m') (hlt : ∀ s, s < D.n → f' s < m') (hk : ∀ s, s < D.n → f' s = f s ∨ m ≤ f' s)
    (he : ∀ s, s < D.n → ∀ t, t < D.n → (f' s = f' t ↔ f s = f t ∧ (f0 (D.nx s C) = k ↔ f0 (D.nx t C) = k))) : SplS D k m0 f0 (C + 1) m' f' := by
  have ok := hD.toOk
  refine ⟨hlt, Nat.le_trans h.mle hm, fun s hs t ht e => h.re s hs t ht ((he s hs t ht).1 e).1, fun c hc s hs t ht e => ?_, fun s hs => ?_, fun s hs t ht e => ?_⟩
  · obtain ⟨e1, e2⟩ := (he s hs t ht).1 e
    by_cases h2 : c < C
    · exact h.st c h2 s hs t ht e1
    · have : c = C := by omega
      subst this
      exact e2
  · have := h.mle
    rcases hk s hs with h1 | h1
    · rcases h.kp s hs with h2 | h2
      · exact .inl (h1.trans h2)
      · exact .inr (by omega)
    · exact .inr (by omega)
  · obtain ⟨b, hb, rfl⟩ := hD.cols C hC
    have e2 := h0.co _ (ok.nx s hs _ (ok.bc b hb)) _ (ok.nx t ht _ (ok.bc b hb)) (e.step hb)
    exact (he s hs t ht).2 ⟨h.co s hs t ht e, by rw [e2]⟩
theorem HopS.next (hD : D.Ok) (h0 : HopS D k m0 f0) (hk : k < m0) (h : SplS D k m0 f0 D.W m f) : HopS D (k + 1) m f := by
  refine ⟨h.lt, h.co, fun s hs t ht e => h0.ou s hs t ht (h.re s hs t ht e), fun s hs t ht e c hc => ?_⟩
  have hx := hD.nx s hs c hc
  have hy := hD.nx t ht c hc
  have e1 := h0.hop s hs t ht (h.re s hs t ht e) c hc
  have e2 := h.st c hc s hs t ht e
  generalize D.nx s c = x at *
  generalize D.nx t c = y at *
  rcases h.kp x hx with p1 | p1
  · rcases h.kp y hy with p2 | p2
    · rw [p1, p2]
      omega
    · exact .inr (.inr (by omega))
  · exact .inr (.inl (by omega))
theorem HopS.same (hD : D.Ok) (hs : ∀ s, s < D.n → ∀ t, t < D.n → f s = f t → D.ou s = D.ou t) (hn : ∀ s, s < D.n → ∀ t, t < D.n → f s = f t → ∀ c, c < D.W → f (D.nx s c) = f (D.nx t c)) : ∀ {u : List Nat} {s t : Nat}, s < D.n → t < D.n → f s = f t → Txt u → D.lab s u = D.lab t u
  | [], s, t, h1, h2, e, _ => hs s h1 t h2 e
  | b :: u, s, t, h1, h2, e, hu => by
    have hb := hu.tail.1
    have := HopS.same hD hs hn (hD.step h1 hb) (hD.step h2 hb) (hn s h1 t h2 e _ (hD.bc b hb)) hu.tail.2
    exact this
/-- All parts gone through. -/
theorem HopS.done (hD : D.Ok) (h : HopS D m m f) : ∀ s, s < D.n → ∀ t, t < D.n → (f s = f t ↔ D.Eqv s t) := fun s hs t ht =>
  ⟨fun e u hu => HopS.same hD h.ou (fun s hs t ht e c hc => by
    have := h.hop s hs t ht e c hc
    have := h.lt _ (hD.nx s hs c hc)
    have := h.lt _ (hD.nx t ht c hc)
    omega) hs ht e hu, h.co s hs t ht⟩
/-- Each state stands alone. -/
theorem HopS.alone (h : HopS D k m f) (hi : ∀ s, s < D.n → ∀ t, t < D.n → f s = f t → s = t) : ∀ s, s < D.n → ∀ t, t < D.n → (f s = f t ↔ D.Eqv s t) := fun s hs t ht =>
  ⟨fun e => by rw [hi s hs t ht e]; exact DF.Eqv.refl _ _, h.co s hs t ht⟩
end
/-- So many states that no two of them have the same labels. -/
def Many (D : DF) (N : Nat) : Prop := ∃ g : Nat → Nat, (∀ i, i < N → g i < D.n) ∧ ∀ i, i < N → ∀ j, j < N → D.Eqv (g i) (g j) → i = j
theorem HopS.many {D : DF} {k m : Nat} {f : Nat → Nat} (h : HopS D k m f) (hne : ∀ r, r < m → ∃ s, s < D.n ∧ f s = r) : Many D m := by
  have hc : ∀ r, ∃ s, r < m → s < D.n ∧ f s = r := fun r => by
    by_cases hr : r < m
    · obtain ⟨s, hs⟩ := hne r hr
      exact ⟨s, fun _ => hs⟩
    · exact ⟨0, fun h => absurd h hr⟩
  refine ⟨fun r => (hc r).choose, fun i hi => ((hc i).choose_spec hi).1, fun i hi j hj e => ?_⟩
  have h1 := (hc i).choose_spec hi
  have h2 := (hc j).choose_spec hj
  have := h.co _ h1.1 _ h2.1 e
  rw [h1.2, h2.2] at this
  exact this
theorem pigeon : ∀ (M N : Nat) (g : Nat → Nat), (∀ i, i < N → g i < M) → (∀ i, i < N → ∀ j, j < N → g i = g j → i = j) → N ≤ M
  | _, 0, _, _, _ => Nat.zero_le _
  | 0, N + 1, g, h, _ => absurd (h 0 (by omega)) (by omega)
  | M + 1, N + 1, g, h, hi => by
    have := pigeon M N (fun i => if g i = M then g N else g i) (fun i hi' => by
      have h1 := h i (by omega)
      have h2 := h N (by omega)
      by_cases e : g i = M
      · rw [if_pos e]
        have : ¬ g N = M := fun e2 => by have := hi i (by omega) N (by omega) (by omega); omega
        omega
      · rw [if_neg e]; omega) (fun i hi' j hj e => by
      have hij := hi i (by omega) j (by omega)
      have hiN := hi i (by omega) N (by omega)
      have hjN := hi j (by omega) N (by omega)
      by_cases e1 : g i = M
      · by_cases e2 : g j = M
        · exact hij (by omega)
        · rw [if_pos e1, if_neg e2] at e; omega
      · by_cases e2 : g j = M
        · rw [if_neg e1, if_pos e2] at e; omega
        · rw [if_neg e1, if_neg e2] at e; exact hij e)
    omega
/-- Two automata that say the same have the same parts. -/
theorem Many.le {D E : DF} {N : Nat} (hD : Many D N) (hr : ∀ s, s < D.n → ∃ t, Txt t ∧ D.run 0 t = s) (hE : E.Ok) (hl : ∀ t, Txt t → D.lab 0 t = E.lab 0 t) : N ≤ E.n := by
  obtain ⟨g, h1, h2⟩ := hD
  have hc : ∀ i, ∃ s', i < N → s' < E.n ∧ ∀ u, Txt u → E.lab s' u = D.lab (g i) u := fun i => by
    by_cases hi : i < N
    · obtain ⟨t, k1, k2⟩ := hr (g i) (h1 i hi)
      refine ⟨E.run 0 t, fun _ => ⟨hE.run hE.n0 k1, fun u hu => ?_⟩⟩
      have := hl (t ++ u) (k1.app hu)
      unfold DF.lab at this ⊢
      rw [DF.run_app, DF.run_app, k2] at this
      exact this.symm
    · exact ⟨0, fun h => absurd h hi⟩
  refine pigeon E.n N (fun i => (hc i).choose) (fun i hi => ((hc i).choose_spec hi).1) (fun i hi j hj e => h2 i hi j hj (fun u hu => ?_))
  have e' : (hc i).choose = (hc j).choose := e
  rw [← ((hc i).choose_spec hi).2 u hu, ← ((hc j).choose_spec hj).2 u hu, e']
end Go.Proofs.YtdgoilkgplnhfaaGreat
