/-
  A list that came in and is nil has no room. No condition.
-/
import Derived.Test.YtljagefcgijmlaaArg
namespace Go.Proofs.Ytljagefcgijmlaa
open Go.RowKit Go.Deep
theorem spans_nil {H : Type} {enc : TypeId × Value → H} {W : World} {fuel : Nat} {a0 : Option Addr} {len cap : Nat} {d : DataW H} {p : List MemPlace}
    (hf : DataW.trod enc Try.prog W 0 (fun _ => true) true fuel 22 [.slice a0 len cap] = some (d, p)) : a0 = none → cap = 0 := by
  rcases open_slice Try.underlying22 hf with ⟨hcs, _⟩ | ⟨a, l, c, m, n, D, Pl, hcs, _, hl, hm, hmm, hx, hat⟩
  · injection hcs with hv
    injection hv with e1 e2 e3
    intro _
    exact e3
  · injection hcs with hv
    injection hv with e1 e2 e3
    intro h
    rw [h] at e1
    cases e1
end Go.Proofs.Ytljagefcgijmlaa
