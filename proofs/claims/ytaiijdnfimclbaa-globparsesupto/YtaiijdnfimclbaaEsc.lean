/-
  escaped by its contract; a builder's calls. Condition: the byte is 32 to 126.
-/
import Derived.Test.YtaiijdnfimclbaaRgh
import Derived.Test.YtaiijdnfimclbaaShelf
import Derived.Laws.EntriesVeiled
import Derived.Shelf.Strings.BuilderK
namespace Go.Proofs.Ytaiijdnfimclbaa
open Go.RowKit Go.Lib

def bU (b : Int) : UInt8 := UInt8.ofNat b.toNat
/-- A byte as text, behind a backslash if it is one of q. -/
def escL (b : Int) (q : By) : By := if q.contains (bU b) then [92, bU b] else [bU b]
theorem idx_has : ∀ (q : By) (c : UInt8), decide (0 ≤ Lib.indexByte q c) = q.contains c
  | [], c => by simp [Lib.indexByte]
  | x :: q, c => by
    have ih := idx_has q c
    unfold Lib.indexByte
    by_cases hx : (x == c) = true
    · have : x = c := by simpa using hx
      subst this
      simp
    · have hx' : ¬ c = x := fun h => hx (by simp [h])
      rw [if_neg hx]
      rw [List.contains_cons, ← ih]
      have e1 : (c == x) = false := by simpa using hx'
      rw [e1, Bool.false_or]
      have hge : Lib.indexByte q c = -1 ∨ 0 ≤ Lib.indexByte q c := by
        clear ih hx hx' e1
        induction q with
        | nil => exact .inl rfl
        | cons y q ih =>
          unfold Lib.indexByte
          split
          · exact .inr (by decide)
          · rcases ih with h | h
            · exact .inl (by simp [h])
            · refine .inr ?_
              split
              · rename_i h2; simp at h2; omega
              · omega
      rcases hge with h | h
      · simp [h]
      · have h2 : ¬ (Lib.indexByte q c == -1) = true := by simp; omega
        rw [if_neg h2]
        simp [h]
        omega
theorem enc_one (b : Int) (h0 : 0 ≤ b) (h1 : b ≤ 126) : Utf8.encode b = ⟨#[bU b]⟩ := by
  unfold Utf8.encode
  have hv : Utf8.valid b = true := by
    unfold Utf8.valid
    simp
    omega
  simp only [hv, if_true]
  rw [if_pos (by omega)]
  rfl
set_option maxRecDepth 100000 in
set_option maxHeartbeats 1000000 in
theorem escaped_any (b : Int) (q : By) (w : World) (h0 : 32 ≤ b) (h1 : b ≤ 126) : Calls Try.prog 48 #[.int .i64 b, .string ⟨q.toArray⟩] w fun e w' => e = .returned (.string ⟨(escL b q).toArray⟩) ∧ Below w.heap.size w w' := by
  have he := enc_one b (by omega) h1
  have w1 : IntKind.i32.wrap b = b := by simp [IntKind.wrap, IntKind.bits, IntKind.signed]; omega
  have w2 : IntKind.u8.wrap b = b := by simp [IntKind.wrap, IntKind.bits, IntKind.signed]; omega
  have HI := hide (fun w => idxByte_any q b w)
  have HX : Hid (decide (0 ≤ Lib.indexByte q b.toNat.toUInt8) = q.contains (bU b)) := idx_has q _
  generalize Lib.indexByte q b.toNat.toUInt8 = i at HI HX
  by_cases hi : 0 ≤ i
  · have HE : Hid (escL b q = [92, bU b]) := by unfold Hid escL; rw [if_pos (by rw [← HX.out]; exact decide_eq_true hi)]
    clear HX
    go_enter Try.func48, Try.ntmps48
    go_wp2_with (go_at_call 70; refine (HI.out _).mono ?_; rintro e w2 ⟨rfl, hw2⟩; subst hw2)
    go_ret
    exact ⟨by rw [HE.out]; rfl, Below.refl _ _⟩
  · have HE : Hid (escL b q = [bU b]) := by unfold Hid escL; rw [if_neg (by rw [← HX.out, decide_eq_false hi]; decide)]
    clear HX
    go_enter Try.func48, Try.ntmps48
    go_wp2_with (go_at_call 70; refine (HI.out _).mono ?_; rintro e w2 ⟨rfl, hw2⟩; subst hw2)
    go_ret
    exact ⟨by rw [HE.out]; rfl, Below.refl _ _⟩
/-- A builder, and what it holds. -/
def Bld (B b : Nat) (l : By) (w : World) : Prop := Lib.IsBuilderF 67 5 B b (Lib.byteCells l) w
theorem wrs_any (B b : Nat) (l q : By) (w : World) (h : Bld B b l w) (hlen : l.length + q.length ≤ 140737488355328) (hB : B ≤ w.heap.size) :
    Calls Try.prog 30 #[.pointer (some ⟨b, 0, none⟩), .string ⟨q.toArray⟩] w fun e w' => e = .returned (.tuple #[.int .i64 (q.length : Nat), .nilIface]) ∧ Bld B b (l ++ q) w' ∧ Below B w w' ∧ Lib.OthersKept 5 (some b) w w' := by
  have := Any.Builder_WriteString_k Try.lays166 Try.bldExtra B b (Lib.byteCells l) ⟨q.toArray⟩ w h (by rw [show (Lib.byteCells l).length = l.length by simp [Lib.byteCells]]; exact hlen) hB
  change Calls Try.prog 30 _ _ _ at this
  refine this.mono fun e w' ⟨h1, h2, h3⟩ => ⟨h1, .inr ?_, h3⟩
  have e : Lib.byteCells (l ++ q) = Lib.byteCells l ++ Lib.strCells ⟨q.toArray⟩ := by simp [Lib.byteCells, Lib.strCells]
  rw [e]
  exact h2
theorem str_any (B b : Nat) (l : By) (w : World) (h : Bld B b l w) (hB : B ≤ w.heap.size) :
    Calls Try.prog 31 #[.pointer (some ⟨b, 0, none⟩)] w fun e w' => e = .returned (.string ⟨l.toArray⟩) ∧ Below B w w' := by
  have := Any.Builder_String_any_k Try.lays169 Try.bldExtra B b l w h hB
  change Calls Try.prog 31 _ _ _ at this
  exact this.mono fun e w' h => ⟨h.1, h.2.2.1⟩
theorem bld_new (w : World) : Bld w.heap.size w.heap.size [] (w.alloc (.cells #[.pointer none, .slice none 0 0] 67)) := by
  refine Lib.IsBuilderF.of (.inl ⟨Nat.le_refl _, .slice none 0 0, heap_alloc_new _ _, World.ownsRow_nil _ _ _ _, ?_⟩)
  intro h
  cases h
theorem Bld.below {B b : Nat} {l : By} {w w' : World} (h : Bld B b l w) (x : Below w.heap.size w w') : Bld B b l w' := by
  have one : ∀ p, Lib.BuilderAtF 67 5 B b p (Lib.byteCells l) w → Lib.BuilderAtF 67 5 B b p (Lib.byteCells l) w' := fun p ⟨hB, v, hv, hown, hne⟩ =>
    ⟨hB, v, (x.block b (lt_of_block hv)).trans hv, hown.kept (row := none) ⟨x.os, x.tape, x.output, x.size, fun k hk _ => x.block k hk⟩ (Classical.em _), hne⟩
  rcases h with h | h
  · exact .inl (one _ h)
  · exact .inr (one _ h)
theorem kept_blk {b k : Nat} {cs : Array Value} {T : TypeId} {w w' : World} (h : Lib.OthersKept 5 (some b) w w') (hk : w.heap[k]? = some (.cells cs T (0, 0))) (hne : k ≠ b) (hT : T ≠ 5) : w'.heap[k]? = some (.cells cs T (0, 0)) :=
  h k _ hk (fun e => hne (by injection e)) (fun c fz e => hT (by injection e))
end Go.Proofs.Ytaiijdnfimclbaa
