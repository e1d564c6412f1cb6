/-
  The reader's sees, member and item by their contracts. Condition: a text is no longer than a process can hold.
-/
import Derived.Test.YtaiijdnfimclbaaRdr
namespace Go.Proofs.Ytaiijdnfimclbaa
open Go.RowKit Go.Lib

theorem idx_two (c : UInt8) : decide (0 ≤ Lib.indexByte [93, 45] ((c.toNat : Int).toNat.toUInt8)) = ([93].isPrefixOf [c] || [45].isPrefixOf [c]) := by
  rw [Int.toNat_natCast]
  show decide (0 ≤ Lib.indexByte [93, 45] (UInt8.ofNat c.toNat)) = _
  rw [UInt8.ofNat_toNat]
  unfold Lib.indexByte Lib.indexByte Lib.indexByte
  simp only [List.isPrefixOf, Bool.and_true]
  by_cases h1 : (93 == c) = true
  · simp [h1]
  · by_cases h2 : (45 == c) = true
    · simp [h1, h2]
    · simp [h1, h2]
set_option maxRecDepth 100000 in
set_option maxHeartbeats 2000000 in
theorem sees_any (rb : Nat) (p r : By) (w : World) (hl : (p ++ r).length ≤ 140737488351232) (h : RdAt w rb p r) :
    Calls Try.prog 88 #[.pointer (some ⟨rb, 0, none⟩), .string ⟨#[93, 45]⟩] w fun e w' => e = .returned (.bool ([93].isPrefixOf r || [45].isPrefixOf r)) ∧ Below w.heap.size w w' := by
  have c0 := h.c0
  have c1 := h.c1
  clear h
  cases r with
  | nil =>
    rw [List.append_nil] at c0
    go_enter Try.func88, Try.ntmps88
    go_wp2
    go_quiet (fail)
    go_wp2
    go_ret
    exact ⟨rfl, below_drewN _ _ _⟩
  | cons c r =>
    have hpl : p.length < (p ++ c :: r).length := by rw [List.length_append, List.length_cons]; omega
    have z1 : (p.length : Int) < ((p ++ c :: r).length : Int) := by omega
    obtain ⟨s, HS⟩ : ∃ s, Hid (s = p ++ c :: r) := ⟨_, rfl⟩
    have hg' : ∀ hk, (⟨s.toArray⟩ : ByteArray)[p.length]'hk = c := by rw [HS.out]; exact fun _ => (by rw [idx_str]; simp)
    rw [← HS.out] at c0 z1 hl hpl
    have HI := hide (fun w => idxByte_any [93, 45] (c.toNat : Int) w)
    have HT := hide (idx_two c)
    have HE : Hid (([93].isPrefixOf (c :: r) || [45].isPrefixOf (c :: r)) = ([93].isPrefixOf [c] || [45].isPrefixOf [c])) := by simp [Hid, List.isPrefixOf]
    generalize Lib.indexByte [93, 45] ((c.toNat : Int).toNat.toUInt8) = i at HI HT
    go_enter Try.func88, Try.ntmps88
    go_wp2
    go_region_held3 (fun w' => w'.cell? ⟨rb, 0, none⟩ = some (.string ⟨s.toArray⟩) ∧ w'.cell? ⟨rb, 1, none⟩ = some (.int .i64 (p.length : Nat))) (first | assumption | (simp [go_sem, *]; done))
      (first | (go_at_call 70; refine (HI.out _).mono ?_; rintro e w2 ⟨rfl, hw2⟩; subst hw2))
    go_wp2
    go_ret
    refine ⟨?_, ?_⟩
    · show Ending.returned (Value.bool (decide (0 ≤ i))) = _
      rw [HE.out, ← HT.out]
    · exact ⟨rfl, rfl, rfl, Nat.le_refl _, fun _ _ => rfl⟩
end Go.Proofs.Ytaiijdnfimclbaa
