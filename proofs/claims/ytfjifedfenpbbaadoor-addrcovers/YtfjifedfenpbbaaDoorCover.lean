/-
  Cover by its contract: the prefixes of a set, in a row of the call's own. Condition: a list is no longer than a process can hold.
-/
import Derived.Test.YtfjifedfenpbbaaDoorWid
import Derived.Test.YtfjifedfenpbbaaDoorPp
import Derived.Test.YtfjifedfenpbbaaDoorRow
namespace Go.Proofs.YtfjifedfenpbbaaDoor
open Go.RowKit Go.Lib

theorem quadOf_ex (n : Nat) (h : n < 4294967296) (w : World) : Calls Tryd.prog 34 #[.int .i64 n] w fun e w' => (∃ a b c d : Nat, (a < 256 ∧ b < 256 ∧ c < 256 ∧ d < 256) ∧ e = .returned (.agg #[.int .u8 a, .int .u8 b, .int .u8 c, .int .u8 d]) ∧ W4 a b c d = n) ∧ Below w.heap.size w w' :=
  (quadOf_any n w).mono fun _ _ h' => ⟨⟨_, _, _, _, ⟨by omega, by omega, by omega, by omega⟩, h'.1, W4_of n h⟩, h'.2⟩
theorem OwnT.type {T T' : TypeId} {w : World} {base k : Nat} {v : Value} {L : List Spn} {cs : Array Value} (h : OwnT T w base v L) (hk : v.ownBlock = some k) (hb : w.heap[k]? = some (.cells cs T' (0, 0))) : T' = T := by
  rcases h.2 with ⟨rfl, _⟩ | ⟨g, cap, cur, rfl, _, hg, _⟩
  · cases hk
  · have e : g = k := Option.some.inj hk
    subst e
    rw [hg] at hb
    simp at hb
    exact hb.2.symm
theorem grown_other {T T' : TypeId} {w w' : World} {base k : Nat} {v : Value} {L : List Spn} {cs : Array Value} (h : OwnT T w base v L) (hg : w.grownBy w' v.ownBlock) (hb : w.heap[k]? = some (.cells cs T' (0, 0))) (hne : T' ≠ T) : w'.heap[k]? = some (.cells cs T' (0, 0)) :=
  (hg.block k (lt_of_block hb) (fun e => hne (h.type e.symm hb))).trans hb
theorem snoc_at {w : World} {base : Nat} {v : Value} {A : List Spn} {s : Spn} (h : w.ownsRow base 28 2 v (A.length + 1) (spCells A ++ [.int .i64 s.1, .int .i64 s.2])) : OwnT 28 w base v (A ++ [s]) := OwnT.snoc h

set_option maxRecDepth 100000 in
set_option maxHeartbeats 8000000 in
theorem cover_any (ao : Option Addr) (cap : Nat) (L : List Spn) (w : World) (hl : L.length ≤ 140737488351232) (hat : SpAt w ao L) :
    Calls Tryd.prog 20 #[.slice ao L.length cap] w fun e w' => ((IsSet L ∧ ∃ v, e = .returned (.tuple #[v, .int .i64 0]) ∧ OwnT 28 w' w.heap.size v (covL L)) ∨ (¬ IsSet L ∧ e = .returned (.tuple #[.slice none 0 0, .int .i64 1]))) ∧ Below w.heap.size w w' := by
  obtain ⟨i0, hi, hz⟩ : ∃ i, Tryd.prog.info? 28 = some i ∧ (i.zero, i.size, i.bytes) = (some (.agg #[.int .i64 0, .int .i64 0]), 2, 16) := by
    have := Tryd.info28
    cases h : Tryd.prog.info? 28 with
    | none => rw [h] at this; simp at this
    | some i => rw [h] at this; exact ⟨i, rfl, Option.some.inj this⟩
  simp only [Prod.mk.injEq] at hz
  obtain ⟨hz0, hz1, hz2⟩ := hz
  have hr := spRight_any ao cap L w hl hat
  by_cases hs : IsSet L
  · rw [decide_eq_true hs] at hr
    go_enter Tryd.func20, Tryd.ntmps20
    go_wp2_with (go_at_call 41; refine hr.mono ?_; rintro e w1 ⟨rfl, x1⟩; have X1 := hide x1; clear x1)
    clear hr
    go_loopw [4, 15] (fun o i wr => ∃ k : Nat, k ≤ L.length ∧ i = .int .i64 k ∧ Hid (OwnT 28 wr w.heap.size o (covL (L.take k))) ∧ Below w.heap.size w wr) (fun _ i _ => L.length - (RowKit.intOf i).toNat)
    case atStart => exact ⟨0, Nat.zero_le _, rfl, OwnT.nil _ _ _, X1.out⟩
    case round =>
      obtain ⟨k, hk, rfl, HO, hq⟩ := hrel
      have HQ := hide hq
      clear hq
      by_cases hlt : k < L.length
      · obtain ⟨b, off, rfl, hb, hc⟩ := hat.get hlt
        obtain ⟨c1, c2⟩ := (hc k hlt).below HQ.out hb
        have hct := covL_take L k hlt
        have hbd := (ok_of_isSet hs hlt).1
        have hsz := covL_len (L.take (k + 1)) (hs.take (k + 1)).1
        have hsz2 := (sizeL_le (hs.take (k + 1))).2
        unfold Bnd at hbd
        obtain ⟨s, hs'⟩ : ∃ s, s = L.getD k (0, 0) := ⟨_, rfl⟩
        rw [← hs'] at c1 c2 hct hbd
        obtain ⟨lo, hlo⟩ : ∃ lo : Nat, s.1 = lo := ⟨s.1.toNat, by omega⟩
        obtain ⟨h8, hh8⟩ : ∃ h8 : Nat, s.2 = h8 := ⟨s.2.toNat, by omega⟩
        rw [hlo, hh8] at hbd
        rw [hlo] at c1
        rw [hh8] at c2
        have hcs : covS s = cov lo h8 := by simp [covS, hlo, hh8]
        rw [hcs] at hct
        have HC := hide hct
        have HZ : Hid (((covL (L.take k)).length : Int) + (cov lo h8).length ≤ 4294967296) := by
          unfold Hid
          rw [hct, List.length_append] at hsz
          omega
        generalize covL (L.take k) = P at *
        clear hct hsz hsz2 hcs hlo hh8 hs' hc
        rename World => wL
        go_wp2
        have hB1 : Below w.heap.size w (wL.alloc (.cells #[.int .i64 (lo : Int), .int .i64 (h8 : Int)] 36)) := al HQ.out _
        have hR1 := heap_alloc_new wL (.cells #[.int .i64 (lo : Int), .int .i64 (h8 : Int)] 36)
        have HO1 := hide (HO.out.below (al (Below.refl _ _) (.cells #[.int .i64 (lo : Int), .int .i64 (h8 : Int)] 36)))
        generalize wL.heap.size = sb at *
        generalize wL.alloc (.cells #[.int .i64 (lo : Int), .int .i64 (h8 : Int)] 36) = WS at *
        have HB1 := hide hB1
        have HR1 := hide hR1
        clear hB1 hR1 HO c1 c2
        go_loopw [4, 7] (fun o x wq => ∃ (at' : Nat) (D : List Spn), x = .int .i64 at' ∧ at' ≤ 4294967296 ∧ Hid (cov lo h8 = D ++ cov at' h8) ∧ Hid (OwnT 28 wq w.heap.size o (P ++ D)) ∧ Hid (wq.heap[sb]? = some (.cells #[.int .i64 (lo : Int), .int .i64 (h8 : Int)] 36 (0, 0))) ∧ Below w.heap.size w wq) (fun _ x _ => h8 + 1 - (RowKit.intOf x).toNat)
        case atStart => exact ⟨lo, [], rfl, by omega, rfl, by rw [List.append_nil]; exact HO1.out, HR1.out, HB1.out⟩
        case round =>
          obtain ⟨at', D, rfl, hat', HD, HO2, HR2, hq2⟩ := hrel
          have HQ2 := hide hq2
          clear hq2
          have y1 : wr.cell? ⟨sb, 1, none⟩ = some (.int .i64 (h8 : Int)) := (two_get HR2.out).2.1
          have hsb := lt_of_block HR2.out
          by_cases hle : at' ≤ h8
          · have hle2 : (at' : Int) ≤ h8 := by omega
            have hft := wd_fits hle
            have hwl := wd_le at' h8
            have hqo := fun w2 => quadOf_ex at' (by omega) w2
            have hpo : 0 < 2 ^ (32 - wd at' h8) := Nat.pow_pos (by decide)
            have hfit : at' + 2 ^ (32 - wd at' h8) - 1 ≤ h8 := hft.2
            have hst := cov_step hle
            have HST : Hid (cov lo h8 = (D ++ [((at' : Int), (wd at' h8 : Int))]) ++ cov (at' + 2 ^ (32 - wd at' h8)) h8) := by
              unfold Hid
              rw [HD.out, hst]
              simp
            have HLN : Hid ((P ++ D).length + 1 ≤ 4294967296) := by
              unfold Hid
              have := HZ.out
              rw [HD.out, hst] at this
              simp only [List.length_append, List.length_cons] at this ⊢
              omega
            have HFT := hide hft
            clear hst hft
            obtain ⟨S, hS⟩ : ∃ S, 2 ^ (32 - wd at' h8) = S := ⟨_, rfl⟩
            rw [hS] at hpo hfit HST
            have HS := hide hS
            have HW := hide (Nat.le_refl w.heap.size)
            clear hS
            go_wp2_with (first
              | (go_at_call 34; refine (hqo _).mono ?_; rintro e w2 ⟨⟨qa, qb, qc, qd, ⟨l1, l2, l3, l4⟩, rfl, h4⟩, x2⟩; have H4 := hide h4; have y2 : (w2.alloc (.cells #[.int .u8 (qa : Int), .int .u8 (qb : Int), .int .u8 (qc : Int), .int .u8 (qd : Int)] 55)).cell? ⟨sb, 1, none⟩ = some (.int .i64 (h8 : Int)) := (((al (Below.refl w2.heap.size w2) _).cell (p := ⟨sb, 1, none⟩) (Nat.lt_of_lt_of_le hsb x2.size)).trans ((x2.cell (p := ⟨sb, 1, none⟩) hsb).trans y1)); have B3 := hide (heap_alloc_new w2 (.cells #[.int .u8 (qa : Int), .int .u8 (qb : Int), .int .u8 (qc : Int), .int .u8 (qd : Int)] 55)); have X3 := hide (al x2 (.cells #[.int .u8 (qa : Int), .int .u8 (qb : Int), .int .u8 (qc : Int), .int .u8 (qd : Int)] 55)); have hq3 : w2.heap.size < (w2.alloc (.cells #[.int .u8 (qa : Int), .int .u8 (qb : Int), .int .u8 (qc : Int), .int .u8 (qd : Int)] 55)).heap.size := (by simp); clear x2 h4)
              | (go_at_call 42; generalize w2.alloc (.cells #[.int .u8 (qa : Int), .int .u8 (qb : Int), .int .u8 (qc : Int), .int .u8 (qd : Int)] 55) = w3 at *; refine (widest_any qa qb qc qd at' h8 H4.out l1 l2 l3 l4 w3).mono ?_; rintro e w4 ⟨rfl, x4⟩; have X4 := hide (bt X3.out x4 (Nat.le_refl _)); have B5 := hide ((Below.heap_alloc w4 (.cells #[.int .i64 (at' : Int), .int .i64 (wd at' h8 : Int)] 28) w2.heap.size (Nat.lt_of_lt_of_le hq3 x4.size)).trans ((x4.block w2.heap.size hq3).trans B3.out)); have R5 := hide ((Below.heap_alloc w4 (.cells #[.int .i64 (at' : Int), .int .i64 (wd at' h8 : Int)] 28) sb (Nat.lt_of_lt_of_le hsb X4.out.size)).trans ((X4.out.block sb hsb).trans HR2.out)); have HO4 := hide ((HO2.out.below X4.out).below (al (Below.refl _ _) (.cells #[.int .i64 (at' : Int), .int .i64 (wd at' h8 : Int)] 28))); have HN4 := hide (new_cells 28 w4 ((at' : Int), (wd at' h8 : Int)) w4.heap.size rfl); have X5 := hide (al (bt HQ2.out X4.out HW.out) (.cells #[.int .i64 (at' : Int), .int .i64 (wd at' h8 : Int)] 28)); clear x4)
              | (at_builtin; refine wpList_append_own_at _ rfl (.tmp 31) (.tmp 35) 44 rfl w.heap.size 28 i0 (.agg #[.int .i64 0, .int .i64 0]) 2 16 Tryd.underlying44 hi hz0 hz1 hz2 rfl (by decide) _ (P ++ D).length (spCells (P ++ D)) rfl HO4.out ⟨w4.heap.size, 0, none⟩ 1 1 [.int .i64 (at' : Int), .int .i64 (wd at' h8 : Int)] rfl rfl HN4.out (by simp [Value.oneCell']) (by have := HLN.out; unfold maxLen; omega) (by have := HLN.out; omega) X5.out.size ?_; intro v8 w8 h1 h2 _ h3; have O8 := hide (OwnT.snoc (s := ((at' : Int), (wd at' h8 : Int))) h1); have B8 := hide (grown_other HO4.out h2 B5.out (by decide)); have R8 := hide (grown_other HO4.out h2 R5.out (by decide)); have X8 := hide (X5.out.grown h2 X5.out.size (fun k hk => (HO4.out.lt k hk).1)); have e0 : w8.cell? ⟨w2.heap.size, 0, none⟩ = some (.int .u8 (qa : Int)) := (by rw [cell_of_row w8 w2.heap.size 0 _ _ _ B8.out]; rfl); have e1 : w8.cell? ⟨w2.heap.size, 1, none⟩ = some (.int .u8 (qb : Int)) := (by rw [cell_of_row w8 w2.heap.size 1 _ _ _ B8.out]; rfl); have e2 : w8.cell? ⟨w2.heap.size, 2, none⟩ = some (.int .u8 (qc : Int)) := (by rw [cell_of_row w8 w2.heap.size 2 _ _ _ B8.out]; rfl); have e3 : w8.cell? ⟨w2.heap.size, 3, none⟩ = some (.int .u8 (qd : Int)) := (by rw [cell_of_row w8 w2.heap.size 3 _ _ _ B8.out]; rfl); clear h1 h2 h3)
              | (go_at_call 39; refine (last_any qa qb qc qd (wd at' h8) l1 l2 l3 l4 hwl (by rw [H4.out]; exact HFT.out.1) w8).mono ?_; rintro e w9 ⟨⟨a', b', c', d', ⟨m1, m2, m3, m4⟩, rfl, h5⟩, x9⟩; rw [H4.out, HS.out] at h5; have H5 := hide h5; have X9 := hide x9; clear x9 h5)
              | (go_at_call 26; have hwd := word_any a' b' c' d' m1 m2 m3 m4 w9; rw [H5.out] at hwd; refine hwd.mono ?_; rintro e w10 ⟨rfl, x10⟩; have X10 := hide (bt X9.out x10 (Nat.le_refl _)); clear x10 hwd))
            go_roundw
            case rel => exact ⟨at' + S, D ++ [((at' : Int), (wd at' h8 : Int))], by go_num, by omega, HST, by have := O8.out.below X10.out; rw [← List.append_assoc]; exact this, (X10.out.block sb (lt_of_block R8.out)).trans R8.out, bt X8.out X10.out HW.out⟩
            case measure => simp [RowKit.intOf]; omega
          · have hle2 : ¬ (at' : Int) ≤ h8 := by omega
            have hdn : cov at' h8 = [] := cov_done (by omega)
            have HE : Hid (covL (L.take (k + 1)) = P ++ D) := by
              unfold Hid
              rw [HC.out, HD.out, hdn, List.append_nil]
            clear hdn
            go_wp2
            go_roundw
            case rel => exact ⟨k + 1, by omega, by go_num, by rw [HE.out]; exact HO2.out, HQ2.out⟩
            case measure => simp [RowKit.intOf]; omega
      · have h8 : k = L.length := by omega
        subst h8
        rw [List.take_length] at HO
        go_wp2
        go_ret2
        exact ⟨.inl ⟨hs, _, rfl, HO.out⟩, HQ.out⟩
  · rw [decide_eq_false hs] at hr
    clear hat
    go_enter Tryd.func20, Tryd.ntmps20
    go_wp2_with (go_at_call 41; refine hr.mono ?_; rintro e w1 ⟨rfl, x1⟩; have X1 := hide x1; clear x1)
    go_ret2
    exact ⟨.inr ⟨hs, rfl⟩, X1.out⟩
end Go.Proofs.YtfjifedfenpbbaaDoor
