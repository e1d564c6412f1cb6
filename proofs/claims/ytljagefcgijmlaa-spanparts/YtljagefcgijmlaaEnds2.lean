/-
  endsOfAll by its contract. Conditions: the lists are sets, of at most 2^32 spans each, and fewer than 2^31 lists.
-/
import Derived.Test.YtljagefcgijmlaaEnds
import Derived.Deep.RegionHeld3
namespace Go.Proofs.Ytljagefcgijmlaa
open Go.RowKit Go.Lib

/-- What is asked of the sets. -/
def SetsOk (S : List (List Spn)) : Prop := ∀ L ∈ S, IsSet L ∧ L.length ≤ 4294967296
def OutE (lo : Nat) (w : World) (S : List (List Spn)) (first : Nat) (e : Ending) (w' : World) : Prop :=
  ∃ (t : GT) (es : List End), e = .returned t.val ∧ NewG lo w w' t es ∧ es.Pairwise (fun a b => a.1 ≤ b.1) ∧ es.Perm (allEnds S first)

theorem NewG.drew' {lo : Nat} {w w' : World} {t : GT} {es : List End} (h : NewG lo w.drew w' t es) : NewG lo w w' t es := ⟨h.at', h.nodup, h.new, ⟨h.below.os, h.below.tape, h.below.output, h.below.size, h.below.block⟩⟩
theorem merged_new {lo : Nat} {w w1 w2 : World} {t1 t2 : GT} {A B : List End} (g1 : NewG lo w w1 t1 A) (g2 : NewG lo w1 w2 t2 B) (hlo : lo ≤ w.heap.size) :
    Calls Try.prog 78 #[t1.val, t2.val] w2 fun e w' => ∃ t : GT, e = .returned t.val ∧ NewG lo w w' t (A.merge B leE) := by
  have s1 := g1.below.size
  have s2 := g2.below.size
  refine (merged_any lo t1 t2 w2 A B (GT.At.kept (F := fun _ => False) (Kept.of_below g2.below) (fun _ _ h => h) g1.at' (fun _ _ h => h)) g2.at' g1.nodup g2.nodup (fun k h1 h2 => by have := (g1.new k h1).2; have := (g2.new k h2).1; omega) (fun k h => by
    rcases h with h | h
    · have := (g1.new k h).1; omega
    · have := (g2.new k h).1; omega)).mono ?_
  rintro e w' ⟨t, rfl, a1, a2, a3, a4⟩
  refine ⟨t, rfl, ⟨a1, a2, fun k hk => ⟨?_, a1.lt k hk⟩, (g1.below.trans (g2.below.mono s1)).trans (a4.below (by omega) (fun i hi => ?_))⟩⟩
  · rcases a3 k hk with h | h | h
    · exact (g1.new k h).1
    · have := (g2.new k h).1; omega
    · omega
  · rcases hi with h | h
    · exact (g1.new i h).1
    · have := (g2.new i h).1; omega
theorem merge_sorted {A B : List End} (hA : A.Pairwise (fun a b => a.1 ≤ b.1)) (hB : B.Pairwise (fun a b => a.1 ≤ b.1)) : (A.merge B leE).Pairwise (fun a b => a.1 ≤ b.1) := by
  have h := List.pairwise_merge (le := leE) (fun a b c h1 h2 => by simp only [leE, decide_eq_true_eq] at *; omega) (fun a b => by simp only [leE, Bool.or_eq_true, decide_eq_true_eq]; omega) A B (hA.imp (fun h => by simpa [leE] using h)) (hB.imp (fun h => by simpa [leE] using h))
  exact h.imp (fun h => by simpa [leE] using h)

set_option maxRecDepth 100000 in
set_option maxHeartbeats 2000000 in
theorem endsOfAll_any (lo : Nat) : ∀ (n : Nat) (S : List (List Spn)), S.length ≤ n → ∀ (ao : Option Addr) (cap first : Nat) (w : World), SsAt lo w ao S → lo ≤ w.heap.size → SetsOk S → S.length ≤ cap → S.length + first ≤ 2147483648 →
    Calls Try.prog 64 #[.slice ao S.length cap, .int .i64 first] w fun e w' => OutE lo w S first e w' := by
  intro n
  induction n with
  | zero =>
    intro S hS ao cap first w _ hlo hok hcap hfit
    have hS0 : S = [] := List.length_eq_zero_iff.1 (by omega)
    subst hS0
    have hcon := endsOf_any lo none 0 [] first w (.inl rfl) (fun x hx => by cases hx) (by simp) (by simp)
    simp only [List.length_nil] at *
    go_enter Try.func64, Try.ntmps64
    go_wp2_with (go_at_call 77; refine hcon.mono ?_; rintro e w2 ⟨t, rfl, x2⟩; have X2 := hide x2; clear x2)
    go_ret
    exact ⟨t, _, rfl, X2.out, by simp [endsL], by simp [endsL, allEnds]⟩
  | succ n ih =>
    intro S hS ao cap first w hat hlo hok hcap hfit
    match S, hS, hat, hok, hcap, hfit with
    | [], hS, hat, hok, hcap, hfit => exact ih [] (by simp) ao cap first w hat hlo hok hcap hfit
    | [L], hS, hat, hok, hcap, hfit =>
      obtain ⟨h1, h2⟩ := hok L (by simp)
      rcases hat with h | ⟨b, off, rfl, hb, hc⟩
      · cases h
      obtain ⟨ai, ci, q1, q2, q3⟩ := hc 0 (by simp)
      simp only [List.getD_cons_zero, Nat.add_zero] at q1 q2
      have hcon := endsOf_any lo ai ci L first w q2 q3 h2 h1.1
      have HS := hide (endsL_sorted L first h1)
      clear hc q2 h1
      simp only [List.length_singleton] at *
      go_enter Try.func64, Try.ntmps64
      go_wp2_with (go_at_call 77; refine hcon.mono ?_; rintro e w2 ⟨t, rfl, x2⟩; have X2 := hide x2; clear x2)
      go_ret
      exact ⟨t, _, rfl, X2.out, HS.out, by simp [allEnds]⟩
    | L1 :: L2 :: S', hS, hat, hok, hcap, hfit =>
      obtain ⟨S, hSe⟩ : ∃ S, S = L1 :: L2 :: S' := ⟨_, rfl⟩
      rw [← hSe] at hS hat hok hcap hfit ⊢
      have h2 : 2 ≤ S.length := by rw [hSe]; simp
      have hx : ∃ b off, ao = some ⟨b, off, none⟩ := by
        rcases hat with h | ⟨b, off, e, _⟩
        · rw [h] at h2; simp at h2
        · exact ⟨b, off, e⟩
      obtain ⟨b, off, rfl⟩ := hx
      obtain ⟨m, hm⟩ : ∃ m, m = S.length / 2 := ⟨_, rfl⟩
      have hm1 : 1 ≤ m := by omega
      have hm2 : m < S.length := by omega
      have tl : (S.take m).length = m := by rw [List.length_take]; omega
      have dl : (S.drop m).length = S.length - m := by rw [List.length_drop]
      have hok1 : SetsOk (S.take m) := fun L hL => hok L (List.mem_of_mem_take hL)
      have hok2 : SetsOk (S.drop m) := fun L hL => hok L (List.mem_of_mem_drop hL)
      have c1 := fun W (h1 : Below w.heap.size w W) => ih (S.take m) (by omega) (some ⟨b, off, none⟩) cap first W ((hat.take m).below (h1.mono hlo)) (Nat.le_trans hlo h1.size) hok1 (by omega) (by omega)
      have c2 := fun W (h1 : Below w.heap.size w W) => ih (S.drop m) (by omega) (some ⟨b, off + m, none⟩) (cap - m) (first + m) W ((hat.drop m).below (h1.mono hlo)) (Nat.le_trans hlo h1.size) hok2 (by omega) (by omega)
      rw [tl] at c1
      rw [dl] at c2
      simp only [Int.natCast_add] at c2
      have hq : (S.length : Int) / 2 = (m : Int) := by omega
      have HA := hide hat
      have HC1 := hide c1
      have HC2 := hide c2
      have HM := hide hm
      have HL := hide hlo
      clear hat hok ih hok1 hok2 hSe c1 c2 hm tl dl
      have i1 : (0 : Int) ≤ (m : Int) := by omega
      have i2 : (m : Int) ≤ (cap : Int) := by omega
      have i3 : (m : Int) ≤ (S.length : Int) := by omega
      have i4 : (S.length : Int) ≤ (cap : Int) := by omega
      have i5 : (m : Int) < (cap : Int) := by omega
      have HWR : Hid (IntKind.i64.wrap ((first : Int) + (m : Int)) = (first : Int) + (m : Int)) := by unfold Hid; simp [IntKind.wrap, IntKind.bits, IntKind.signed]; omega
      have hs2 : ¬ (S.length : Int) = 0 := by omega
      have hs3 : ¬ (S.length : Int) = 1 := by omega
      go_enter Try.func64, Try.ntmps64
      go_wp2
      go_region_held3 (fun _ => True) (first | trivial | assumption) (first | (go_at_call 64; have hb := HC1; refine (HC1.out w.drew ((Below.refl w.heap.size w).drew)).mono ?_; rintro e w1 ⟨t1, es1, he, g1, s1, p1⟩; subst he; have G1 : Hid (NewG lo w w1 t1 es1) := (g1.drew'); have S1 := hide s1; have P1 := hide p1; clear g1 s1 p1; clear HC1 hb) | (go_at_call 64; rw [HWR.out]; have hb := G1.out.below; refine (HC2.out w1 hb).mono ?_; rintro e w2 ⟨t2, es2, he, g2, s2, p2⟩; subst he; have G2 := hide g2; have S2 := hide s2; have P2 := hide p2; clear g2 s2 p2 hb HC2) | (go_at_call 78; refine (merged_new G1.out G2.out HL.out).mono ?_; rintro e w3 ⟨t3, he, g3⟩; subst he; have G3 := hide g3; clear g3))
      go_wp2
      go_ret
      refine ⟨t3, _, rfl, G3.out, merge_sorted S1.out S2.out, ?_⟩
      have e1 : allEnds S first = allEnds (S.take m) first ++ allEnds (S.drop m) (first + m) := by
        have := allEnds_append (S.take m) (S.drop m) first
        rw [List.take_append_drop, List.length_take] at this
        rw [this, show min m S.length = m by omega]
      rw [e1]
      exact (List.merge_perm_append leE).trans (P1.out.append P2.out)
end Go.Proofs.Ytljagefcgijmlaa
