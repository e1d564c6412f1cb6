/-
  The statement's owned, walked: the lists within parts, each in a block of its own, are their owner's; nothing else is turned. Condition: at most 2^32 parts, lists of at most 2^32 numbers.
-/
import Derived.Test.YtljagefcgijmlaaGrowH
import Derived.Test.YtljagefcgijmlaaParts
namespace Go.Proofs.Ytljagefcgijmlaa
open Go.RowKit Go.Lib

def mcI (i : Nat) : List Value := [.int .i64 (-1 - (i : Int))]
theorem mcI_len (i : Nat) : (mcI i).length = 1 := rfl
theorem Try.info48 : (Try.prog.info? 48).map (fun i => (i.zero, i.size, i.bytes)) = some (some (.slice none 0 0), 1, 24) := by kernel_rfl
def LsP (P : List PartD) : List LD := P.map fun p => ⟨p.v, p.I.length⟩
theorem LsP_length (P : List PartD) : (LsP P).length = P.length := by simp [LsP]
theorem LsP_get (P : List PartD) (i : Nat) (hi : i < (LsP P).length) : (LsP P)[i] = ⟨(P[i]'(by rwa [LsP_length] at hi)).v, (P[i]'(by rwa [LsP_length] at hi)).I.length⟩ := by simp [LsP]
theorem ptCells_get (P : List PartD) : ∀ i (hi : i < P.length), (ptCells P)[i * 3]? = some (.int .i64 (P[i]).s.1) ∧ (ptCells P)[i * 3 + 1]? = some (.int .i64 (P[i]).s.2) ∧ (ptCells P)[i * 3 + 2]? = some (P[i]).v := by
  induction P with
  | nil => intro i hi; simp at hi
  | cons p P ih =>
    intro i hi
    have e : ptCells (p :: P) = .int .i64 p.s.1 :: .int .i64 p.s.2 :: p.v :: ptCells P := by simp [ptCells]
    rw [e]
    cases i with
    | zero => simp
    | succ i =>
      have := ih i (by simpa using hi)
      rw [show (i + 1) * 3 = i * 3 + 1 + 1 + 1 by omega]
      simp only [List.getElem?_cons_succ, List.getElem_cons_succ]
      exact this
theorem part_cell {w : World} {base n g cap : Nat} {P : List PartD} (h : w.ownsRow base 50 3 (.slice (some ⟨g, 0, none⟩) n cap) n (ptCells P)) (hn : n = P.length) {i : Nat} (hi : i < (LsP P).length) : w.cell? ⟨g, i * 3 + 2, none⟩ = some ((LsP P)[i]).v := by
  subst hn
  have hi' : i < P.length := by rwa [LsP_length] at hi
  rw [World.ownsRow.cellAt h (i * 3 + 2) (by omega), (ptCells_get P i hi').2.2, LsP_get P i hi]
theorem OwnP.lists {w : World} {base : Nat} {v : Value} {P : List PartD} (h : OwnP w base v P) : LsAtH 50 3 1 3 P.length (ptCells P) w base v (LsP P) (fun i => intCells ((P[i]?.map PartD.I).getD [])) := by
  refine ⟨h.row, fun i hi => ?_, ?_⟩
  · have hi' : i < P.length := by rwa [LsP_length] at hi
    rw [LsP_get P i hi]
    simp only [List.getElem?_eq_getElem hi', Option.map_some, Option.getD_some]
    exact h.ints _ (List.getElem_mem hi')
  · unfold ApartL LsP
    rw [List.pairwise_map]
    exact h.apart

/-- The marks laid so far. -/
structure MkP (w0 : World) (base : Nat) (l : Value) (P : List PartD) (i k : Nat) (X : Nat → List Value) (w : World) : Prop where
  ls : LsAtH 50 3 1 3 P.length (ptCells P) w base l (LsP P) X
  done : ∀ i' (h : i' < (LsP P).length), i' < i → X i' = rep mcI i' ((LsP P)[i']).n
  part : ∀ j, j < k → (X i)[j]? = (mcI i)[j % 1]?
  kept : Kept (FutL (LsP P) 0) w0 w
theorem MkP.step {w0 w : World} {base : Nat} {l : Value} {P : List PartD} {i k : Nat} {X : Nat → List Value} (h : MkP w0 base l P i k X w) (hi : i < (LsP P).length) (hk : k < ((LsP P)[i]).n) {g cap : Nat} (hv : ((LsP P)[i]).v = .slice (some ⟨g, 0, none⟩) ((LsP P)[i]).n cap) :
    (∃ u, w.cell? ⟨g, k, none⟩ = some u) ∧ w.frozen? ⟨g, k, none⟩ = false ∧ ∃ X', MkP w0 base l P i (k + 1) X' (w.setCell ⟨g, k, none⟩ (.int .i64 (-1 - (i : Int)))) := by
  have hh := h.ls.each i hi
  rw [hv] at hh
  have hl := hh.1
  obtain ⟨h3, h4⟩ := hh.stored k (.int .i64 (-1 - (i : Int)))
  refine ⟨⟨(X i)[k]'(by omega), ?_⟩, hh.frozenAt _, fun j => if j = i then (X i).set k (.int .i64 (-1 - (i : Int))) else X j, ?_, ?_, ?_, ?_⟩
  · rw [hh.cellAt k (by omega)]; exact List.getElem?_eq_getElem _
  · refine h.ls.turned (by decide) hi (by rw [hv]; exact h3) ?_
    rw [hv]
    exact kept_of_grown h4
  · intro i' hi' hlt
    simp only [show ¬ i' = i by omega, if_false]
    exact h.done i' hi' hlt
  · intro j hj
    simp only [if_true]
    by_cases h1 : j = k
    · subst h1
      rw [List.getElem?_set_self (by omega), Nat.mod_one]
      rfl
    · rw [List.getElem?_set_ne (by omega)]
      exact h.part j (by omega)
  · exact h.kept.setCell ⟨i, hi, Nat.zero_le _, by rw [hv]; rfl⟩ _
theorem MkP.next {w0 w : World} {base : Nat} {l : Value} {P : List PartD} {i : Nat} {X : Nat → List Value} (hi : i < (LsP P).length) (h : MkP w0 base l P i ((LsP P)[i]).n X w) : MkP w0 base l P (i + 1) 0 X w := by
  refine ⟨h.ls, fun i' h1 h2 => ?_, fun j hj => by omega, h.kept⟩
  rcases Nat.lt_or_ge i' i with h3 | h3
  · exact h.done i' h1 h3
  · obtain rfl : i' = i := by omega
    have hl := (h.ls.each i' hi).1
    apply List.ext_getElem?
    intro j
    by_cases hj : j < ((LsP P)[i']).n
    · rw [h.part j hj, rep_get mcI_len i' _ j (by omega)]
    · rw [List.getElem?_eq_none (by omega), List.getElem?_eq_none (by rw [rep_length mcI_len]; omega)]
theorem MkP.out {w0 w : World} {base : Nat} {l : Value} {P : List PartD} {X : Nat → List Value} (h : MkP w0 base l P (LsP P).length 0 X w) : GrOH 50 48 3 1 3 P.length (ptCells P) mcI w base l (.slice none 0 0) (LsP P) [] 0 := by
  refine GrOH.start ⟨h.ls.row, fun i hi => ?_, h.ls.apart⟩
  have := h.ls.each i hi
  rw [h.done i hi hi] at this
  simpa [hi] using this
/-- Behind an append. -/
theorem app_new {w0 w w' : World} {F : Nat → Prop} {v v' : Value} (hk : Kept F w0 w) (hv : ∀ k, v.ownBlock = some k → F k ∨ w0.heap.size ≤ k) (h : AppAt w w' v v') : Kept F w0 w' ∧ ∀ k, v'.ownBlock = some k → F k ∨ w0.heap.size ≤ k := by
  rcases h with ⟨g, a, b, c⟩ | ⟨a, b⟩
  · refine ⟨hk.trans_new (kept_of_grown c) (fun k h1 h2 => ?_), fun k hk' => hv k (by rw [a]; rw [b] at hk'; exact hk')⟩
    cases h2
    rcases hv g a with h3 | h3
    · exact h3
    · omega
  · exact ⟨hk.trans (Kept.of_below (below_of_grown a)), fun k hk' => .inr (Nat.le_trans hk.size (b k hk'))⟩
theorem kept_al {F : Nat → Prop} {w0 w : World} (h : Kept F w0 w) (o : Obj) : Kept F w0 (w.alloc o) := h.trans (Kept.of_below ((Below.refl _ _).alloc (Nat.le_refl _) _))

set_option maxRecDepth 100000 in
set_option maxHeartbeats 2000000 in
theorem ownedP_any (w : World) (base g cap : Nat) (P : List PartD) (hls : OwnP w base (.slice (some ⟨g, 0, none⟩) P.length cap) P) (hb : base ≤ w.heap.size) (hP : P.length ≤ 4294967296) (hn : ∀ p ∈ P, p.I.length ≤ 4294967296) :
    Calls Try.prog 33 #[.slice (some ⟨g, 0, none⟩) P.length cap] w fun e w' => e = .returned (.bool true) ∧ Kept (FutL (LsP P) 0) w w' := by
  obtain ⟨i3, hi, hz0, hz1, hz2⟩ : ∃ i, Try.prog.info? 3 = some i ∧ i.zero = some (.int .i64 0) ∧ i.size = 1 ∧ i.bytes = 8 := info_parts Try.info3
  obtain ⟨i48, hj, hy0, hy1, hy2⟩ : ∃ i, Try.prog.info? 48 = some i ∧ i.zero = some (.slice none 0 0) ∧ i.size = 1 ∧ i.bytes = 24 := info_parts Try.info48
  have M0 : MkP w base (.slice (some ⟨g, 0, none⟩) P.length cap) P 0 0 _ w := ⟨hls.lists, fun i' _ h => by omega, fun j h => by omega, Kept.refl _ _⟩
  have HN : Hid (∀ i (h : i < (LsP P).length), ((LsP P)[i]).n ≤ 4294967296) := fun i h => by rw [LsP_get P i h]; exact hn _ (List.getElem_mem _)
  have HLL := hide (LsP_length P)
  have hLL : (LsP P).length ≤ 4294967296 := by rw [LsP_length]; exact hP
  clear hls hn
  go_enter Try.func33, Try.ntmps33
  go_wp2
  go_loopw [4] (fun x wr => ∃ i : Nat, i ≤ P.length ∧ x = .int .i64 i ∧ ∃ X, MkP w base (.slice (some ⟨g, 0, none⟩) P.length cap) P i 0 X wr) (fun x _ => P.length - (RowKit.intOf x).toNat)
  case atStart => exact ⟨0, Nat.zero_le _, rfl, _, M0⟩
  case round =>
    obtain ⟨i, hi1, rfl, X1, M1⟩ := hrel
    by_cases hlt : i < P.length
    · have hlt' : (i : Int) < P.length := by omega
      have hltL : i < (LsP P).length := by rw [HLL.out]; exact hlt
      obtain ⟨ai, ci, hv, hpos⟩ := own_shape (M1.ls.each i hltL)
      have hnn := HN.out i hltL
      clear M0
      go_wp2
      go_loopw [5] (fun x wr => ∃ k : Nat, k ≤ ((LsP P)[i]).n ∧ x = .int .i64 k ∧ ∃ X, MkP w base (.slice (some ⟨g, 0, none⟩) P.length cap) P i k X wr) (fun x _ => ((LsP P)[i]).n - (RowKit.intOf x).toNat)
      case atStart => exact ⟨0, Nat.zero_le _, rfl, X1, M1⟩
      case round =>
        obtain ⟨k, hk1, rfl, X2, M2⟩ := hrel
        have c0 := part_cell M2.ls.row rfl hltL
        rw [hv] at c0
        clear M1
        by_cases hk : k < ((LsP P)[i]).n
        · obtain ⟨gi, rfl⟩ := hpos (by omega)
          obtain ⟨⟨u1, e1⟩, e2, X3, m3⟩ := M2.step hltL hk hv
          have M3 := hide m3
          generalize ((LsP P)[i]).n = n at *
          have hk' : (k : Int) < n := by omega
          have fi : IntKind.i64.wrap (-1 - (i : Int)) = -1 - (i : Int) := by simp [IntKind.wrap, IntKind.bits, IntKind.signed]; omega
          clear m3 hv M2
          go_wp2
          go_roundw
          case rel => exact ⟨k + 1, by omega, by go_num, X3, M3.out⟩
          case measure => simp [RowKit.intOf]; omega
        · have h8 : k = ((LsP P)[i]).n := by omega
          have M3 : MkP w base (.slice (some ⟨g, 0, none⟩) P.length cap) P (i + 1) 0 X2 wr := by rw [h8] at M2; exact M2.next hltL
          have hk' : ¬ (k : Int) < ((LsP P)[i]).n := by omega
          generalize ((LsP P)[i]).n = n at *
          clear hv M2 h8
          go_wp2
          go_roundw
          case rel => exact ⟨i + 1, by omega, by go_num, X2, M3⟩
          case measure => simp [RowKit.intOf]; omega
    · have h8 : i = (LsP P).length := by rw [HLL.out]; omega
      have hlt' : ¬ (i : Int) < P.length := by omega
      rw [h8] at M1
      have G1 := M1.out
      have B1 := hide M1.kept
      clear M1 M0 h8
      go_wp2
      go_loopw [3, 6] (fun o x wr => ∃ i : Nat, i ≤ P.length ∧ x = .int .i64 i ∧ ∃ A, GrOH 50 48 3 1 3 P.length (ptCells P) mcI wr base (.slice (some ⟨g, 0, none⟩) P.length cap) o (LsP P) A i ∧ Hid (Kept (FutL (LsP P) 0) w wr) ∧ Hid (∀ k, o.ownBlock = some k → FutL (LsP P) 0 k ∨ w.heap.size ≤ k)) (fun _ x _ => P.length - (RowKit.intOf x).toNat)
      case atStart => exact ⟨0, Nat.zero_le _, rfl, [], G1, B1.out, fun k hk => by cases hk⟩
      case round =>
        obtain ⟨i, hi1, rfl, A, G2, B2, ON⟩ := hrel
        clear G1 B1
        by_cases hlt : i < P.length
        · have hlt' : (i : Int) < P.length := by omega
          have hltL : i < (LsP P).length := by rw [HLL.out]; exact hlt
          have hnn := HN.out i hltL
          have c0 := part_cell G2.row rfl hltL
          have G3 := G2.enter hltL
          have XN : Hid (∀ k, ((LsP P)[i]).v.ownBlock = some k → FutL (LsP P) 0 k ∨ w.heap.size ≤ k) := fun k hk => .inl ⟨i, hltL, Nat.zero_le _, hk⟩
          clear G2
          generalize ((LsP P)[i]).n = n at *
          generalize ((LsP P)[i]).v = xv at *
          have fi : IntKind.i64.wrap (-1 - (i : Int)) = -1 - (i : Int) := by simp [IntKind.wrap, IntKind.bits, IntKind.signed]; omega
          go_wp2
          go_loopw [3, 7, 8] (fun o xx q wr => ∃ k : Nat, k ≤ 6 ∧ q = .int .i64 k ∧ ∃ A nx, nx ≤ n + k ∧ GrH 50 48 3 1 3 P.length (ptCells P) mcI wr base (.slice (some ⟨g, 0, none⟩) P.length cap) o (LsP P) A i k xx nx ∧ Hid (Kept (FutL (LsP P) 0) w wr) ∧ Hid (∀ k, o.ownBlock = some k → FutL (LsP P) 0 k ∨ w.heap.size ≤ k) ∧ Hid (∀ k, xx.ownBlock = some k → FutL (LsP P) 0 k ∨ w.heap.size ≤ k)) (fun _ _ q _ => 6 - (RowKit.intOf q).toNat)
          case atStart => exact ⟨0, Nat.zero_le _, rfl, A, n, Nat.le_refl _, G3, B2, ON, XN⟩
          case round =>
            obtain ⟨k, hk1, rfl, A4, nx, hnx, G4, B4, ON4, XN4⟩ := hrel
            clear G3 B2 c0 ON XN
            by_cases hk : k < 6
            · have hk' : (k : Int) < 6 := by omega
              obtain ⟨ax, cx, hx, _⟩ := own_shape G4.own
              subst hx
              have hlen := G4.len
              have HG5 := hide (G4.below ((Below.refl _ _).alloc (Nat.le_refl _) (.cells #[.slice ax nx cx] 48)))
              have HB5 := hide (kept_al B4.out (.cells #[.slice ax nx cx] 48))
              have HN5 : Hid (∀ j u, ([.slice ax nx cx] : List Value)[j]? = some u → (wr.alloc (.cells #[.slice ax nx cx] 48)).cell? ((⟨wr.heap.size, 0, none⟩ : Addr).add j) = some u) := by
                intro j u hu
                match j, hu with
                | 0, hu => simp at hu; subst hu; simp [Addr.add]
              have HS5 : Hid (base ≤ (wr.alloc (.cells #[.slice ax nx cx] 48)).heap.size) := Nat.le_trans hb HB5.out.size
              have HNX : Hid (nx + 1 ≤ 8589934600 ∧ A4.length ≤ 25769803782) := ⟨by omega, by omega⟩
              clear G4 hlen
              go_wp2_with (first
                | (at_builtin; refine wpList_append_view rfl (.tmp 51) (.tmp 53) 70 rfl base 48 i48 (.slice none 0 0) 1 24 Try.underlying70 hj hy0 hy1 hy2 rfl (by decide) _ A4.length (A4.map LD.v) rfl HG5.out.all ⟨wr.heap.size, 0, none⟩ 1 1 [.slice ax nx cx] rfl rfl HN5.out (by simp [Value.oneCell']) (by decide) (by have := HNX.out.2; unfold maxLen; omega) (by have := HNX.out.2; omega) HS5.out ?_; intro v8 w8 h1 h2; obtain ⟨n1, n2⟩ := app_new HB5.out ON4.out h2; have ON8 := hide n2; have HG6 := hide ((HG5.out.push mcI_len (by decide) hk h1 h2).below ((Below.refl _ w8).alloc (Nat.le_refl _) (.cells #[.int .i64 (-1 - (i : Int))] 3))); have HB6 := hide (kept_al n1 (.cells #[.int .i64 (-1 - (i : Int))] 3)); have HN6 : Hid (∀ j u, (mcI i)[j]? = some u → (w8.alloc (.cells #[.int .i64 (-1 - (i : Int))] 3)).cell? ((⟨w8.heap.size, 0, none⟩ : Addr).add j) = some u) := (fun j u hu => by match j, hu with | 0, hu => simp [mcI] at hu; subst hu; simp [Addr.add]); clear h1 h2 n1 n2 HG5 HB5 HN5)
                | (at_builtin; refine wpList_append_view rfl (.tmp 55) (.tmp 58) 48 rfl base 3 i3 (.int .i64 0) 1 8 Try.underlying48 hi hz0 hz1 hz2 rfl (by decide) _ nx (rep mcI i nx) rfl HG6.out.own ⟨w8.heap.size, 0, none⟩ 1 1 (mcI i) rfl rfl HN6.out (by simp [mcI, Value.oneCell']) (by decide) (by have := HNX.out.1; unfold maxLen; omega) (by have := HNX.out.1; omega) (Nat.le_trans hb HB6.out.size) ?_; intro v9 w9 h1 h2; obtain ⟨n1, n2⟩ := app_new HB6.out XN4.out h2; have XN9 := hide n2; have HB7 := hide n1; have HG7 := hide (HG6.out.grow mcI_len (by decide) (by decide) h1 h2); clear h1 h2 n1 n2))
              go_roundw
              case rel => exact ⟨k + 1, by omega, by go_num, _, _, by omega, HG7.out, HB7.out, ON8.out, XN9.out⟩
              case measure => simp [RowKit.intOf]; omega
            · have hk' : ¬ (k : Int) < 6 := by omega
              have h6 : k = 6 := by omega
              have G5 : GrOH 50 48 3 1 3 P.length (ptCells P) mcI wr base (.slice (some ⟨g, 0, none⟩) P.length cap) u3 (LsP P) A4 (i + 1) := by rw [h6] at G4; exact G4.leave
              clear G4 h6
              go_wp2
              go_roundw
              case rel => exact ⟨i + 1, by omega, by go_num, A4, G5, B4, ON4⟩
              case measure => simp [RowKit.intOf]; omega
        · have hlt' : ¬ (i : Int) < P.length := by omega
          obtain ⟨ao, co, ho, hpos⟩ := own_shape G2.all
          subst ho
          have hlen := G2.len
          rename World => wE
          go_wp2
          go_loopw [9] (fun x wz => ∃ j : Nat, j ≤ A.length ∧ x = .int .i64 j ∧ wz = wE) (fun x _ => A.length - (RowKit.intOf x).toNat)
          case atStart => exact ⟨0, Nat.zero_le _, rfl, rfl⟩
          case round =>
            obtain ⟨j, hj1, rfl, hwr⟩ := hrel
            have hwr := hwr.symm
            subst hwr
            by_cases hlj : j < A.length
            · have hlj' : (j : Int) < A.length := by omega
              obtain ⟨lo, rfl⟩ := hpos (by omega)
              have c0 := own_cell1 G2.all rfl hlj rfl
              have hvw := (G2.views j hlj).1
              have hnm := hvw.le
              unfold maxLen at hnm
              obtain ⟨av, cv, hv, hcs⟩ := hvw.shape
              rw [hv] at c0
              generalize (A[j]).n = n at *
              have HCS := hide hcs
              have HG2 := hide G2
              have HLJ : Hid (j + 1 ≤ A.length) := hlj
              clear hvw hv hcs G2
              go_wp2
              go_loopw [10] (fun x wz => ∃ k : Nat, k ≤ n ∧ x = .int .i64 k ∧ wz = wE) (fun x _ => n - (RowKit.intOf x).toNat)
              case atStart => exact ⟨0, Nat.zero_le _, rfl, rfl⟩
              case round =>
                obtain ⟨k, hk1, rfl, hwr⟩ := hrel
                have hwr := hwr.symm
                subst hwr
                by_cases hk : k < n
                · have hk' : (k : Int) < n := by omega
                  obtain ⟨gg, rfl, hc⟩ := HCS.out.resolve_left (by omega)
                  have c1 := hc k (by omega)
                  rw [Nat.mod_one] at c1
                  have e6 : (mcI (j / 6))[0]? = some (.int .i64 (-1 - ((j : Int) / 6))) := by
                    simp [mcI]
                  rw [e6] at c1
                  have fq : IntKind.i64.wrap (-1 - ((j : Int) / 6)) = -1 - ((j : Int) / 6) := by simp [IntKind.wrap, IntKind.bits, IntKind.signed]; omega
                  clear hc e6
                  go_wp2
                  go_roundw
                  case rel => exact ⟨k + 1, by omega, by go_num, by first | rfl | trivial⟩
                  case measure => simp [RowKit.intOf]; omega
                · have hk' : ¬ (k : Int) < n := by omega
                  go_wp2
                  go_roundw
                  case rel => exact ⟨j + 1, HLJ.out, by go_num, by first | rfl | trivial⟩
                  case measure => have := HLJ.out; simp [RowKit.intOf]; omega
            · have hlj' : ¬ (j : Int) < A.length := by omega
              go_wp2
              go_ret
              exact ⟨rfl, B2.out⟩
end Go.Proofs.Ytljagefcgijmlaa
