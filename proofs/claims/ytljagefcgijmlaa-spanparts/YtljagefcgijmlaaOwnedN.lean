/-
  The statement's owned at no parts. No condition.
-/
import Derived.Test.YtljagefcgijmlaaRefP
namespace Go.Proofs.Ytljagefcgijmlaa
open Go.RowKit Go.Lib

set_option maxRecDepth 100000 in
theorem ownedP_nil (w : World) : Calls Try.prog 33 #[.slice none 0 0] w fun e w' => e = .returned (.bool true) ∧ w' = w := by
  go_enter Try.func33, Try.ntmps33
  go_wp2
  go_loopw [4] (fun x wr => x = .int .i64 0 ∧ wr = w) (fun _ _ => 0)
  case atStart => exact ⟨rfl, rfl⟩
  case round =>
    obtain ⟨rfl, hw⟩ := hrel
    have hw := hw.symm
    subst hw
    rename World => wE
    go_wp2
    go_loopw [3, 6] (fun o x wr => o = .slice none 0 0 ∧ x = .int .i64 0 ∧ wr = wE) (fun _ _ _ => 0)
    case atStart => exact ⟨rfl, rfl, rfl⟩
    case round =>
      obtain ⟨rfl, rfl, hw⟩ := hrel
      have hw := hw.symm
      subst hw
      rename World => wF
      go_wp2
      go_loopw [9] (fun x wr => x = .int .i64 0 ∧ wr = wF) (fun _ _ => 0)
      case atStart => exact ⟨rfl, rfl⟩
      case round =>
        obtain ⟨rfl, hw⟩ := hrel
        have hw := hw.symm
        subst hw
        go_wp2
        go_ret
        exact ⟨rfl, rfl⟩
/-- The code's Parts and the document's tell the same. -/
theorem ToldP.same {S : List (List Spn)} {w w1 w2 w3 : World} {e f : Ending} (h : ToldP S w e w1) (h' : ToldP S w2 f w3) :
    (∃ v v' P P', e = .returned (.tuple #[v, .int .i64 0]) ∧ f = .returned (.tuple #[v', .int .i64 0]) ∧ OwnP w1 w.heap.size v P ∧ OwnP w3 w2.heap.size v' P' ∧ bare P = bare P' ∧ PParts S 4294967296 (bare P)) ∨
    (e = .returned (.tuple #[.slice none 0 0, .int .i64 1]) ∧ f = .returned (.tuple #[.slice none 0 0, .int .i64 1])) := by
  rcases h.2 with ⟨hs, v, P, he, ho, hp⟩ | ⟨hs, he⟩
  · rcases h'.2 with ⟨_, v', P', he', ho', hp'⟩ | ⟨hs', _⟩
    · exact .inl ⟨v, v', P, P', he, he', ho, ho', hp.unique hp', hp⟩
    · exact absurd hs hs'
  · rcases h'.2 with ⟨hs', _⟩ | ⟨_, he'⟩
    · exact absurd hs' hs
    · exact .inr ⟨he, he'⟩
end Go.Proofs.Ytljagefcgijmlaa
