/-
  What operations one after the other leave: an arena that has grown; of each answer what it says of points, in whatever the arena becomes. room by its contract. No condition.
-/
import Derived.Test.YtaafeflbanoncaaQ25
import Derived.Test.YtaafeflbanoncaaQ26
import Derived.Test.YtaafeflbanoncaaQ28
namespace Go.Proofs.Ytaafeflbanoncaa
open Go.RowKit Go.Lib Go.Maps

/-- More nodes. -/
def Ex (N N' : List Nd) : Prop := ∃ T, N' = N ++ T
theorem Ex.refl (N : List Nd) : Ex N N := ⟨[], by simp⟩
theorem Ex.trans {N N' N2 : List Nd} (h : Ex N N') (k : Ex N' N2) : Ex N N2 := by
  obtain ⟨T, rfl⟩ := h
  obtain ⟨T2, rfl⟩ := k
  exact ⟨T ++ T2, by rw [List.append_assoc]⟩
theorem Ex.has {N N' : List Nd} {f : Int} (h : Ex N N') (hf : hasR N f) : hasR N' f := by obtain ⟨T, rfl⟩ := h; exact hasR_app hf
theorem Ex.say {S : List Int} {M : Int} {N N' : List Nd} {f : Int} {p : Nat → Nat} (h : Ex N N') (ok : Ok S M N) (hp : Pnt S p) (hf : hasR N f) : sayR N' p f = sayR N p f := by obtain ⟨T, rfl⟩ := h; exact sayR_app ok hp hf
/-- The statements' world. -/
def WBk (w : World) (wb a x : Nat) (lv : Value) : Prop := w.heap[wb]? = some (.cells #[.pointer (some ⟨a, 0, none⟩), .pointer (some ⟨x, 0, none⟩), lv] 35 (0, 0))
theorem WBk.cells {w : World} {wb a x : Nat} {lv : Value} (h : WBk w wb a x lv) : w.cell? ⟨wb, 0, none⟩ = some (.pointer (some ⟨a, 0, none⟩)) ∧ w.cell? ⟨wb, 1, none⟩ = some (.pointer (some ⟨x, 0, none⟩)) ∧ w.cell? ⟨wb, 2, none⟩ = some lv := by
  refine ⟨?_, ?_, ?_⟩ <;> (rw [cell_of_row w wb _ _ _ _ h]; rfl)
/-- The arena behind some operations. -/
structure LI (w0 : World) (a : Nat) (S : List Int) (M : Int) (N0 : List Nd) (P0 : Nat → Prop) (N : List Nd) (P : Nat → Prop) (w : World) : Prop where
  ca : CA w a S M N 8192 P
  kp : Kept P0 w0 w
  gw : Gw w0 P0 P
  ex : Ex N0 N
/-- One more. -/
def LQ (w0 : World) (a : Nat) (S : List Int) (M : Int) (N0 : List Nd) (P0 : Nat → Prop) (N : List Nd) (Φ : List Nd → (Nat → Nat) → Bool) (e : Ending) (w' : World) : Prop :=
  ∃ r er N' P', e = .returned (.tuple #[.int .i64 r, .int .i64 er]) ∧ LI w0 a S M N0 P0 N' P' w' ∧ Ex N N' ∧ hasR N' r ∧ (er = 0 ∨ er = 2) ∧ (er = 0 → ∀ E, Ex N' E → ∀ p, Pnt S p → sayR E p r = Φ E p)
section
variable {w0 w w' : World} {a wb x : Nat} {S : List Int} {M : Int} {N0 N : List Nd} {P0 P : Nat → Prop} {f g : Int} {e : Ending} {m : Nat} {lv : Value}
theorem LI.of (h : CA w a S M N m P) : LI w a S M N P N P w := ⟨h.tight, Kept.refl _ _, Gw.refl _ _, Ex.refl _⟩
theorem LI.below (h : LI w0 a S M N0 P0 N P w) (x : Below w.heap.size w w') : LI w0 a S M N0 P0 N P w' := ⟨h.ca.below x, h.kp.trans (Kept.of_below x), h.gw, h.ex⟩
theorem LI.wbk (h : LI w0 a S M N0 P0 N P w) (hb : WBk w0 wb a x lv) (hn : ¬ P0 wb) : WBk w wb a x lv := (h.kp.block _ (lt_of_block hb) hn).trans hb
theorem LI.rowz {b : Nat} {L : List Int} (h : LI w0 a S M N0 P0 N P w) (hb : RwZ w0 b L) (hn : ¬ P0 b) : RwZ w b L := hb.kept h.kp hn
theorem LI.next {φ : Phi} {Φ : List Nd → (Nat → Nat) → Bool} (I : LI w0 a S M N0 P0 N P w) (h : OpL a S M N P φ w e w') (hΦ : ∀ E, Ex N E → ∀ p, Pnt S p → φ p = Φ E p) : LQ w0 a S M N0 P0 N Φ e w' := by
  obtain ⟨r, er, N', P', rfl, ca, k, g, _, res⟩ := h
  have hex : Ex N N' := by
    rcases res with ⟨_, ex, _⟩ | ⟨_, _, h1, _⟩
    · exact ex
    · rw [h1]; exact Ex.refl _
  refine ⟨r, er, N', P', rfl, ⟨ca, I.kp.trans_new k (fun b hb hP => (I.gw b hP).elim id (fun h2 => by omega)), I.gw.trans g I.kp.size, I.ex.trans hex⟩, hex, ?_, ?_, fun he E hE p hp => ?_⟩
  · rcases res with ⟨_, _, h1, _⟩ | ⟨_, rfl, _, _⟩
    · exact h1.1
    · exact ⟨by omega, by omega⟩
  · rcases res with ⟨h1, _⟩ | ⟨h1, _⟩
    · exact .inl h1
    · exact .inr h1
  · rcases res with ⟨_, _, h1, _⟩ | ⟨h1, _⟩
    · rw [hE.say ca.ok hp h1.1, h1.2 p hp]
      exact hΦ E (hex.trans hE) p hp
    · exact absurd (he.symm.trans h1) (by decide)
theorem LI.and (I : LI w0 a S M N0 P0 N P w) (hf : hasR N f) (hg : hasR N g) : Calls Try.prog 24 #[.pointer (some ⟨a, 0, none⟩), .int .i64 f, .int .i64 g] w fun e w' => LQ w0 a S M N0 P0 N (fun E p => sayR E p f && sayR E p g) e w' :=
  (and_ok I.ca hf hg).mono fun e w' h => I.next h (fun E hE p hp => by show (sayR N p f && sayR N p g) = _; rw [hE.say I.ca.ok hp hf, hE.say I.ca.ok hp hg])
theorem LI.or (I : LI w0 a S M N0 P0 N P w) (hf : hasR N f) (hg : hasR N g) : Calls Try.prog 39 #[.pointer (some ⟨a, 0, none⟩), .int .i64 f, .int .i64 g] w fun e w' => LQ w0 a S M N0 P0 N (fun E p => sayR E p f || sayR E p g) e w' :=
  (or_ok I.ca hf hg).mono fun e w' h => I.next h (fun E hE p hp => by show (sayR N p f || sayR N p g) = _; rw [hE.say I.ca.ok hp hf, hE.say I.ca.ok hp hg])
theorem LI.not (I : LI w0 a S M N0 P0 N P w) (hf : hasR N f) : Calls Try.prog 25 #[.pointer (some ⟨a, 0, none⟩), .int .i64 f] w fun e w' => LQ w0 a S M N0 P0 N (fun E p => !sayR E p f) e w' :=
  (not_ok I.ca hf).mono fun e w' h => I.next h (fun E hE p hp => by rw [hE.say I.ca.ok hp hf])
theorem LI.cut {l k : Nat} (I : LI w0 a S M N0 P0 N P w) (hf : hasR N f) (hl : l < S.length) (hk : (k : Int) < S.getD l 0) : Calls Try.prog 26 #[.pointer (some ⟨a, 0, none⟩), .int .i64 f, .int .i64 (l : Int), .int .i64 (k : Int)] w fun e w' => LQ w0 a S M N0 P0 N (fun E p => sayR E (upd p l k) f) e w' :=
  (restrict_ok I.ca hf hl hk).mono fun e w' h => I.next h (fun E hE p hp => by rw [hE.say I.ca.ok (hp.upd hk) hf])
theorem LI.set {l : Nat} {B : List Bool} {ao : Option Addr} {cap : Nat} (I : LI w0 a S M N0 P0 N P w) (hl : l < S.length) (hB : (B.length : Int) = S.getD l 0) (hat : BAt w ao B) : Calls Try.prog 23 #[.pointer (some ⟨a, 0, none⟩), .int .i64 (l : Int), .slice ao B.length cap] w fun e w' => LQ w0 a S M N0 P0 N (fun _ p => B.getD (p l) false) e w' :=
  (set_ok I.ca (Nat.le_refl _) hl hB hat).mono fun _ _ h => I.next h (fun _ _ _ _ => rfl)
/-- What says nothing of any point is false. -/
theorem Ok.is_zero (ok : Ok S M N) (hf : hasR N f) (h : ∀ p, Pnt S p → sayR N p f = false) : f = 0 := ok.canon hf ⟨by omega, by omega⟩ (fun p hp => by rw [h p hp, sayR_low (by omega)]; rfl)
end
theorem zat_any (w : World) (L : List Int) (t : TypeId) : ZAt (w.alloc (.cells (zC L).toArray t)) (some ⟨w.heap.size, 0, none⟩) L := by
  refine .inr ⟨w.heap.size, 0, rfl, by simp, fun i hi => ?_⟩
  rw [Nat.zero_add, cell_of_row _ _ i _ _ _ (heap_alloc_new w _), List.getElem?_toArray, zC_get L hi]
set_option maxRecDepth 100000 in
theorem room_ok {w : World} {ao : Option Addr} {cap : Nat} {L : List Int} (hl : L.length ≤ 1000) (hz : ZAt w ao L) (h : ∀ i, i < L.length → L.getD i 0 = 0 ∨ L.getD i 0 = 2) : Calls Try.prog 48 #[.slice ao L.length cap] w fun e w' => e = .returned (.bool true) ∧ w' = w := by
  have HZ := hide hz
  have HH := hide h
  clear hz h
  go_enter Try.func48, Try.ntmps48
  go_wp2
  go_loopw [3] (fun x wr => Hid (wr = w) ∧ ∃ k : Nat, k ≤ L.length ∧ x = .int .i64 k) (fun x _ => L.length - (RowKit.intOf x).toNat)
  case atStart => exact ⟨rfl, 0, Nat.zero_le _, rfl⟩
  case round =>
    obtain ⟨hw, k, hk, rfl⟩ := hrel
    have hw2 := hw.out.symm
    clear hw
    subst hw2
    by_cases hlt : k < L.length
    · have hlt' : (k : Int) < (L.length : Int) := by omega
      rcases HZ.out with h0 | ⟨b, off, rfl, hb, hc⟩
      · rw [h0] at hlt; cases hlt
      have q := hc k hlt
      clear hc hb
      rcases HH.out k hlt with e | e
      · rw [e] at q
        clear e
        go_wp2
        go_roundw
        case rel => exact ⟨hide trivial, k + 1, by omega, by go_num⟩
        case measure => simp [RowKit.intOf]; omega
      · rw [e] at q
        clear e
        go_wp2
        go_roundw
        case rel => exact ⟨hide trivial, k + 1, by omega, by go_num⟩
        case measure => simp [RowKit.intOf]; omega
    · have hlt' : ¬ (k : Int) < (L.length : Int) := by omega
      go_wp2
      go_ret
      exact ⟨rfl, rfl⟩
end Go.Proofs.Ytaafeflbanoncaa
