/-
  A region that draws its order, behind the operation that is told apart. Of no program: no condition.
-/
import Derived.Test.YtaafeflbanoncaaHel
namespace Go.Proofs.Ytaafeflbanoncaa
open Go.RowKit Go.Lib

section
variable {P : Program} {ops : Array Oper} {Q : Exit → Act → World → Prop} {md : Region.Mode} {S : World → Prop} {z : Nat}
/-- Only one may come up, and z has come up, or is it: nothing is asked of the world. -/
theorem UntH.stepf {i n : Nat} {o : Oper} {done : Array Bool} {a : Act} {w : World} (hr : Region.ready md ops done = [i]) (ho : ops[i]? = some o) (hz : (done.setIfInBounds i true).getD z true = true) (h : ∀ K' : Act → World → Prop, Shut (∀ a w, UntH P md ops Q S z n (done.setIfInBounds i true) a w → K' a w) → if Region.wanted o (yielded ops a.tmps) = true then Oper.wp P o a w K' Q else K' (a.put o.dst undef) w) : UntH P md ops Q S z (n + 1) done a w :=
  UntH.one hr (wpOp_step ho (fun K' hK => h K' (fun a w h1 => hK a w ⟨fun h2 => (by rw [hz] at h2; cases h2), h1⟩)))
end
end Go.Proofs.Ytaafeflbanoncaa
