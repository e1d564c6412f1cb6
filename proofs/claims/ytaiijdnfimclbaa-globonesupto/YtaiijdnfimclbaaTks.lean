/-
  The statements' pick and takes by their contracts. Condition: numbers are of the machine's kind; the piece is right.
-/
import Derived.Test.YtaiijdnfimclbaaPta
namespace Go.Proofs.Ytaiijdnfimclbaa
open Go.RowKit Go.Lib

/-- A number of the machine's kind. -/
def Fit (x : Int) : Prop := -9223372036854775808 ≤ x ∧ x ≤ 9223372036854775807
/-- Which of n things c speaks of. -/
def pkZ (c : Int) (n : Nat) : Nat := (if c < 0 then -(c + 1) else c).toNat % n
theorem pkZ_lt (c : Int) {n : Nat} (h : 0 < n) : pkZ c n < n := Nat.mod_lt _ h
set_option maxRecDepth 100000 in
theorem pick_any (c : Int) (n : Nat) (hc : Fit c) (hn : 0 < n) (hn2 : n ≤ 8589934592) (w : World) : Calls Try.prog 22 #[.int .i64 c, .int .i64 n] w fun e w' => e = .returned (.int .i64 (pkZ c n : Nat)) ∧ w' = w := by
  unfold Fit at hc
  have hn0 : ¬ (n : Int) = 0 := by omega
  by_cases h : c < 0
  · have e : ((pkZ c n : Nat) : Int) = (-(c + 1)).tmod n := by
      unfold pkZ
      rw [if_pos h, Int.natCast_emod, Int.toNat_of_nonneg (by omega), Int.tmod_eq_emod_of_nonneg (by omega)]
    rw [e]
    clear e
    have w1 : IntKind.i64.wrap (c + 1) = c + 1 := by simp [IntKind.wrap, IntKind.bits, IntKind.signed]; omega
    have w2 : IntKind.i64.wrap (-(c + 1)) = -(c + 1) := by simp [IntKind.wrap, IntKind.bits, IntKind.signed]; omega
    go_enter Try.func22, Try.ntmps22
    rw [Int.neg_tmod]
    go_wp2
    go_ret
    exact ⟨rfl, rfl⟩
  · have e : ((pkZ c n : Nat) : Int) = c % n := by
      unfold pkZ
      rw [if_neg h, Int.natCast_emod, Int.toNat_of_nonneg (by omega)]
    rw [e]
    clear e
    go_enter Try.func22, Try.ntmps22
    go_wp2
    go_ret
    exact ⟨rfl, rfl⟩
def slashB (s : By) : Bool := s.any fun c => decide (c = 47)
theorem slashB_snoc (s : By) (c : UInt8) : slashB (s ++ [c]) = (slashB s || decide (c = 47)) := by simp [slashB]
/-- Does a piece take a text, by the words? -/
def takesB (p : Pc) (s : By) : Bool := if p.kind = 5 then true else if p.kind = 4 then !slashB s else match s with
  | [c] => if p.kind = 1 then decide (((c.toNat : Nat) : Int) = p.b) else if p.kind = 2 then !slashB [c] else !slashB [c] && (memB ((c.toNat : Nat) : Int) p.set != p.no)
  | _ => false
theorem slash_tk (c : UInt8) : (((c.toNat : Nat) : Int) != 47) = !decide (c = 47) := by
  by_cases h : c = 47
  · subst h; rfl
  · have : ¬ ((c.toNat : Nat) : Int) = 47 := fun h2 => h (by
      have h3 : c.toNat = 47 := by omega
      exact UInt8.toNat_inj.1 (by simpa using h3))
    simp [h, this]
theorem getD_one (p : Pc) : ([p] : List Pc).getD 0 zPc = p := rfl
theorem rm_one (p : Pc) (v : By) : rm [p] 1 v = if manyK p.kind then v.all (fun c => tkB p ((c.toNat : Nat) : Int)) else match v with
    | [c] => tkB p ((c.toNat : Nat) : Int)
    | _ => false := by
  have hM : mM [p] 0 = manyK p.kind := rfl
  have hT : ∀ c, mT [p] 0 c = tkB p ((c.toNat : Nat) : Int) := fun _ => rfl
  induction v with
  | nil =>
    rw [show (1 : Nat) = 0 + 1 from rfl, rm_s0, rm_00, hM]
    cases manyK p.kind <;> rfl
  | cons c v ih =>
    rw [show (1 : Nat) = 0 + 1 from rfl, rm_sc, rm_0c, hM, hT]
    cases hm : manyK p.kind with
    | true =>
      rw [hm, if_pos rfl] at ih
      rw [if_pos rfl, if_pos rfl, Bool.false_or, ih, List.all_cons]
    | false =>
      rw [if_neg (by decide), if_neg (by decide)]
      cases v with
      | nil => rw [rm_00, Bool.and_true]
      | cons d v => rw [rm_0c, Bool.and_false]
theorem all_slash (s : By) : (s.all fun c => ((c.toNat : Nat) : Int) != 47) = !slashB s := by
  induction s with
  | nil => rfl
  | cons c s ih => rw [List.all_cons, ih, slash_tk]; unfold slashB; rw [List.any_cons]; cases decide (c = 47) <;> simp
theorem match_one {p : Pc} (h : Rp p) (s : By) : mtF [p] s [p].length = takesB p s := by
  rw [mtF_is, show [p].length = 1 from rfl, rm_one]
  obtain ⟨kd, kb, kn, kS⟩ := p
  rcases rp_kinds h with hk | hk | hk | hk | hk
  all_goals
    simp only at hk
    subst hk
  · rw [show manyK (1 : Int) = false from rfl]
    match s with
    | [] => rfl
    | [c] => simp [takesB, tkB]
    | c :: d :: t =>
      rw [if_neg (by decide), List.reverse_cons, List.reverse_cons]
      cases ht : t.reverse with
      | nil => simp [takesB]
      | cons x y => cases y <;> simp [takesB]
  · rw [show manyK (2 : Int) = false from rfl]
    match s with
    | [] => rfl
    | [c] => simp [takesB, tkB, slashB, slash_tk]
    | c :: d :: t =>
      rw [if_neg (by decide), List.reverse_cons, List.reverse_cons]
      cases ht : t.reverse with
      | nil => simp [takesB]
      | cons x y => cases y <;> simp [takesB]
  · rw [show manyK (3 : Int) = false from rfl]
    match s with
    | [] => rfl
    | [c] => simp [takesB, tkB, slashB, slash_tk]
    | c :: d :: t =>
      rw [if_neg (by decide), List.reverse_cons, List.reverse_cons]
      cases ht : t.reverse with
      | nil => simp [takesB]
      | cons x y => cases y <;> simp [takesB]
  · rw [show manyK (4 : Int) = true from rfl, if_pos rfl, List.all_reverse]
    have : (fun c : UInt8 => tkB ⟨4, kb, kn, kS⟩ ((c.toNat : Nat) : Int)) = fun c => (((c.toNat : Nat) : Int) != 47) := by
      funext c
      simp [tkB]
    rw [this, all_slash]
    simp [takesB]
  · rw [show manyK (5 : Int) = true from rfl, if_pos rfl, List.all_reverse]
    have : (fun c : UInt8 => tkB ⟨5, kb, kn, kS⟩ ((c.toNat : Nat) : Int)) = fun _ => true := by
      funext c
      simp [tkB]
    rw [this]
    simp [takesB]
theorem match_none (s : By) : mtF [] s 0 = decide (s = []) := by
  rw [show (0 : Nat) = ([] : List Pc).length from rfl, mtF_is]
  cases s with
  | nil => simp [rm_00]
  | cons c s =>
    rw [List.reverse_cons]
    cases s.reverse with
    | nil => simp [rm_0c]
    | cons d t => simp [rm_0c]
end Go.Proofs.Ytaiijdnfimclbaa
