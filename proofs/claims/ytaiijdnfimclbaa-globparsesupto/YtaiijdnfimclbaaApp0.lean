/-
  append of whatever many elements to a list of one's own: the step of the walk. Of no program: no condition.
-/
import Derived.Test.YtaiijdnfimclbaaSets
namespace Go.Proofs.Ytaiijdnfimclbaa
open Go.RowKit Go.Lib

theorem run_append_zero {P : Program} (w : World) (t e ty : TypeId) (size : Nat) (hu : P.underlying t = some (.slice e)) (hs : (P.info? e).map (·.size) = some size) (b : Option Addr) (n c : Nat) (xo : Option Addr) (xc : Nat) (hnc : n ≤ c) :
    (Builtin.append_ #[t, t] ty #[.slice b n c, .slice xo 0 xc]).run P w = .ok (.slice b n c) w := by
  cases hq : P.info? e with
  | none => simp [hq] at hs
  | some i =>
    cases b <;> cases xo <;> simp [Builtin.append_, run_underlying hu, Builtin.lenOf, Builtin.firstCells, sizeOf, typeInfo, hq, hnc, storeCells, loadCells, loadCellsFrom]
theorem wpList_append_free {P : Program} {w : World} {ops : Array Oper} {rest : List Oper} {o : Oper} {a : Act} {Q : Exit → Act → World → Prop} (hgd : o.guard = none) (s x : Operand) (t : TypeId)
    (ho : o.op = .call { callee := .builtin .append, args := #[s, x], argTypes := #[t, t] })
    (base : Nat) (e : TypeId) (i : TypeInfo) (z : Value) (size bytes : Nat) (ht : P.underlying t = some (.slice e)) (hi : P.info? e = some i) (hz : i.zero = some z)
    (hsize : i.size = size) (hby : i.bytes = bytes) (hzs : z.cells.size = size) (hsz : 0 < size)
    (v : Value) (n : Nat) (xs : List Value) (hs : a.eval s = v) (hown : w.ownsRow base e size v n xs)
    (xo : Option Addr) (m c : Nat) (news : List Value) (hx : a.eval x = .slice xo m c) (hl : news.length = m * size) (hnews : ∀ ad, xo = some ad → ∀ j u, news[j]? = some u → w.cell? (ad.add j) = some u) (hxo : 0 < m → xo ≠ none) (h1 : ∀ u ∈ news, u.oneCell' = true)
    (h63 : n + m ≤ maxLen) (hbytes : (n + m) * bytes ≤ 140737488355328) (hbase : base ≤ w.heap.size)
    (h : ∀ v' w', w'.ownsRow base e size v' (n + m) (xs ++ news) → Below base w w' → wpList P ops Q rest (a.put o.dst v') w') :
    wpList P ops Q (o :: rest) a w := by
  by_cases hm : m = 0
  · subst hm
    have hn0 : news = [] := List.eq_nil_of_length_eq_zero (by omega)
    subst hn0
    have hh := h v w (by rw [List.append_nil]; exact hown) (Below.refl _ _)
    obtain ⟨b', n', c', rfl, rfl, hnc⟩ : ∃ b' n' c', v = .slice b' n' c' ∧ n' = n ∧ n ≤ c' := by
      rcases hown.2 with ⟨rfl, hn⟩ | ⟨g, cap, cur, rfl, _, _, hnc, _⟩
      · exact ⟨none, 0, 0, rfl, hn.symm, by omega⟩
      · exact ⟨_, n, cap, rfl, rfl, hnc⟩
    refine wpList_plain hgd fun K hK => ?_
    have hrun := run_append_zero (P := P) w t e o.type size ht (by rw [hi]; simp [hsize]) b' n' c' xo c hnc
    unfold Oper.wp
    simp [execOp, ho, resolve, invoke, builtin, hs, hx, hrun, Result.andThen]
    exact hK _ _ hh
  · cases hxe : xo with
    | none => exact absurd hxe (hxo (by omega))
    | some ad =>
      refine wpList_append_view hgd s x t ho base e i z size bytes ht hi hz hsize hby hzs hsz v n xs hs hown ad m c news (by rw [hx, hxe]) hl (hnews ad hxe) h1 (by omega) h63 hbytes hbase ?_
      intro v' w' r1 r2
      obtain ⟨F, hk, hF⟩ := app_kept r2
      exact h v' w' r1 (hk.below hbase (fun k hf => (World.ownsRow.lt hown k (hF k hf)).1))
end Go.Proofs.Ytaiijdnfimclbaa
