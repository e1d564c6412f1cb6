/-
  A piece of a pattern's text by the byte that it opens with. No condition.
-/
import Derived.Test.YtaiijdnfimclbaaDmb
import Derived.Test.YtaiijdnfimclbaaMDs
namespace Go.Proofs.Ytaiijdnfimclbaa

theorem pre2 (c d e : UInt8) (t : By) : ([c, d].isPrefixOf (e :: t)) = (decide (c = e) && [d].isPrefixOf t) := by
  show ((c == e) && [d].isPrefixOf t) = _
  congr 1
theorem pc_q {s : By} {k : Nat} (h : k < s.length) (hc : s[k] = 63) : pcL (s.drop k) = .ok (⟨2, 0, false, []⟩, s.drop (k + 1)) := by
  unfold pcL
  rw [drop_cons h, hc, pre2, pre1, pre1]
  rfl
theorem pc_s2 {s : By} {k : Nat} (h : k < s.length) (hc : s[k] = 42) (h2 : [42].isPrefixOf (s.drop (k + 1)) = true) : pcL (s.drop k) = .ok (⟨5, 0, false, []⟩, s.drop (k + 2)) := by
  unfold pcL
  rw [drop_cons h, hc, pre2, h2]
  simp
theorem pc_s1 {s : By} {k : Nat} (h : k < s.length) (hc : s[k] = 42) (h2 : [42].isPrefixOf (s.drop (k + 1)) = false) : pcL (s.drop k) = .ok (⟨4, 0, false, []⟩, s.drop (k + 1)) := by
  unfold pcL
  rw [drop_cons h, hc, pre2, h2, pre1]
  simp
theorem pc_set {s : By} {k : Nat} (h : k < s.length) (hc : s[k] = 91) : pcL (s.drop k) = stL (s.drop (k + 1)) := by
  unfold pcL
  rw [drop_cons h, hc, pre2, pre1, pre1, pre1]
  rfl
theorem pc_b {s : By} {k : Nat} (h : k < s.length) (hc : s[k] = 92) : pcL (s.drop k) = match tkL 32 (s.drop (k + 1)) with
    | .error t => .error t
    | .ok (c, t) => .ok (⟨1, ((c.toNat : Nat) : Int), false, []⟩, t) := by
  unfold pcL
  rw [drop_cons h, hc, pre2, pre1, pre1, pre1, pre1]
  rfl
theorem pc_b_end {s : By} {k : Nat} (h : k < s.length) (hc : s[k] = 92) (h2 : ¬ k + 1 < s.length) : pcL (s.drop k) = .error (s.drop (k + 1)) := by
  rw [pc_b h hc, List.drop_eq_nil_of_le (by omega)]
  rfl
theorem pc_b_no {s : By} {k : Nat} (h : k < s.length) (hc : s[k] = 92) (h2 : k + 1 < s.length) (h3 : plB s[k + 1] = false) : pcL (s.drop k) = .error (s.drop (k + 1)) := by
  rw [pc_b h hc, drop_cons h2, tkL_cons, h3]
  rfl
theorem pc_b_ok {s : By} {k : Nat} (h : k < s.length) (hc : s[k] = 92) (h2 : k + 1 < s.length) (h3 : plB s[k + 1] = true) : pcL (s.drop k) = .ok (⟨1, ((s[k + 1].toNat : Nat) : Int), false, []⟩, s.drop (k + 2)) := by
  rw [pc_b h hc, drop_cons h2, tkL_cons, h3]
  rfl
theorem pc_o {s : By} {k : Nat} (h : k < s.length) (h1 : ¬ s[k] = 63) (h2 : ¬ s[k] = 42) (h3 : ¬ s[k] = 92) (h4 : ¬ s[k] = 91) : pcL (s.drop k) = if plB s[k] then .ok (⟨1, ((s[k].toNat : Nat) : Int), false, []⟩, s.drop (k + 1)) else .error (s.drop k) := by
  unfold pcL
  rw [drop_cons h, pre2, pre1, pre1, pre1, pre1, decide_eq_false (fun x => h2 x.symm), decide_eq_false (fun x => h1 x.symm), decide_eq_false (fun x => h4 x.symm), decide_eq_false (fun x => h3 x.symm)]
  simp only [Bool.false_and, Bool.false_eq_true, if_false]
  rw [tkL_cons]
  cases plB s[k] <;> rfl
theorem pc_np {s : By} {k : Nat} (h : k < s.length) (hp : plB s[k] = false) : pcL (s.drop k) = .error (s.drop k) := by
  have hne : ∀ d : UInt8, plB d = true → ¬ s[k] = d := fun d hd he => by rw [he, hd] at hp; cases hp
  rw [pc_o h (hne 63 (by decide)) (hne 42 (by decide)) (hne 92 (by decide)) (hne 91 (by decide)), hp]
  rfl
theorem pc_y {s : By} {k : Nat} (h : k < s.length) (hp : plB s[k] = true) (h1 : ¬ s[k] = 63) (h2 : ¬ s[k] = 42) (h3 : ¬ s[k] = 92) (h4 : ¬ s[k] = 91) : pcL (s.drop k) = .ok (⟨1, ((s[k].toNat : Nat) : Int), false, []⟩, s.drop (k + 1)) := by
  rw [pc_o h h1 h2 h3 h4, hp]
  rfl
end Go.Proofs.Ytaiijdnfimclbaa
