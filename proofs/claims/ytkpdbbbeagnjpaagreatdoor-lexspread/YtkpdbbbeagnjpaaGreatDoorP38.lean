/-
  A token held against itself; bare by its contract. No condition.
-/
import Derived.Test.YtkpdbbbeagnjpaaGreatDoorP37
import Derived.Laws.StructEq
namespace Go.Proofs.YtkpdbbbeagnjpaaGreatDoor
open Go.RowKit Go.Lib

theorem fields40 : Tryz.prog.fieldsOf 40 = #[⟨"Kind", 3, 0, false, "", "", 0⟩, ⟨"Text", 9, 1, false, "", "", 8⟩, ⟨"Number", 3, 2, false, "", "", 24⟩, ⟨"Prefix", 38, 3, false, "", "", 32⟩, ⟨"At", 3, 5, false, "", "", 48⟩] := by kernel_rfl
theorem fields38 : Tryz.prog.fieldsOf 38 = #[⟨"Addr", 3, 0, false, "", "", 0⟩, ⟨"Bits", 3, 1, false, "", "", 8⟩] := by kernel_rfl
theorem und40 : Tryz.prog.underlying 40 = some (.struct (Tryz.prog.fieldsOf 40)) := by kernel_rfl
theorem und38 : Tryz.prog.underlying 38 = some (.struct (Tryz.prog.fieldsOf 38)) := by kernel_rfl
theorem held40 : Tryz.prog.stoodInHeld 40 = false := by kernel_rfl
theorem held38 : Tryz.prog.stoodInHeld 38 = false := by kernel_rfl
theorem eq38 (n : Nat) (a b : Int) (w : World) : (Op.equalIn (n + 1 + 1) 38 (.agg #[.int .i64 a, .int .i64 b]) (.agg #[.int .i64 a, .int .i64 b])).run Tryz.prog w = .ok true w := by
  have h3 : ∀ (x : Int) w, (Op.equalIn (n + 1) 3 (.int .i64 x) (.int .i64 x)).run Tryz.prog w = .ok true w := fun x w => by rw [run_equalIn_int w n 3 .i64 .i64 x x Tryz.underlying3]; simp
  have p0 : ∀ w, (part 3 #[.int .i64 a, .int .i64 b] 0).run Tryz.prog w = .ok (.int .i64 a) w := fun w => by kernel_rfl
  have p1 : ∀ w, (part 3 #[.int .i64 a, .int .i64 b] 1).run Tryz.prog w = .ok (.int .i64 b) w := fun w => by kernel_rfl
  rw [run_equalIn_struct w (n + 1) 38 _ _ und38 held38, fields38]
  simp [Op.eqFields, Sem.run_bind, p0, p1, h3]
theorem eq40 (x : Tk) (w : World) : (Op.equalIn 10000 40 (.agg (tkV x)) (.agg (tkV x))).run Tryz.prog w = .ok true w := by
  have h3 : ∀ (x : Int) w, (Op.equalIn 9999 3 (.int .i64 x) (.int .i64 x)).run Tryz.prog w = .ok true w := fun x w => by rw [show (9999 : Nat) = 9998 + 1 from rfl, run_equalIn_int w 9998 3 .i64 .i64 x x Tryz.underlying3]; simp
  have h9 : ∀ (x : ByteArray) w, (Op.equalIn 9999 9 (.string x) (.string x)).run Tryz.prog w = .ok true w := fun x w => by rw [show (9999 : Nat) = 9998 + 1 from rfl, run_equalIn_string w 9998 9 x x Tryz.underlying9]; simp
  have h38 : ∀ (a b : Int) w, (Op.equalIn 9999 38 (.agg #[.int .i64 a, .int .i64 b]) (.agg #[.int .i64 a, .int .i64 b])).run Tryz.prog w = .ok true w := fun a b w => eq38 9997 a b w
  have p0 : ∀ w, (part 3 (tkV x) 0).run Tryz.prog w = .ok (.int .i64 x.k) w := fun w => by kernel_rfl
  have p1 : ∀ w, (part 9 (tkV x) 1).run Tryz.prog w = .ok (.string ⟨x.t.toArray⟩) w := fun w => by kernel_rfl
  have p2 : ∀ w, (part 3 (tkV x) 2).run Tryz.prog w = .ok (.int .i64 x.n) w := fun w => by kernel_rfl
  have p3 : ∀ w, (part 38 (tkV x) 3).run Tryz.prog w = .ok (.agg #[.int .i64 x.a, .int .i64 x.b]) w := fun w => by kernel_rfl
  have p5 : ∀ w, (part 3 (tkV x) 5).run Tryz.prog w = .ok (.int .i64 x.p) w := fun w => by kernel_rfl
  rw [show (10000 : Nat) = 9999 + 1 from rfl, run_equalIn_struct w 9999 40 _ _ und40 held40, fields40]
  simp [Op.eqFields, Sem.run_bind, p0, p1, p2, p3, p5, h3, h9, h38]
/-- A token without its place. -/
def bareT (x : Tk) : Tk := { x with p := 0 }
set_option maxHeartbeats 1000000 in
theorem bare_any (x : Tk) (w : World) : Calls Tryz.prog 32 #[.agg (tkV x)] w fun e w' => e = .returned (.agg (tkV (bareT x))) ∧ Below w.heap.size w w' := by
  unfold tkV bareT
  go_enter Tryz.func32, Tryz.ntmps32
  go_wp2
  obtain ⟨r0, r1, r2, r3, r4, r5⟩ := six_get (heap_alloc_new (w.alloc (.cells #[.int .i64 x.k, .string ⟨x.t.toArray⟩, .int .i64 x.n, .int .i64 x.a, .int .i64 x.b, .int .i64 0] 40)) (.cells #[.int .i64 x.k, .string ⟨x.t.toArray⟩, .int .i64 x.n, .int .i64 x.a, .int .i64 x.b, .int .i64 0] 40))
  rw [show (w.alloc (.cells #[.int .i64 x.k, .string ⟨x.t.toArray⟩, .int .i64 x.n, .int .i64 x.a, .int .i64 x.b, .int .i64 0] 40)).heap.size = w.heap.size + 1 by simp] at r0 r1 r2 r3 r4 r5
  refine bodyPost_ret (by simp [results, Tryz.results32, go_sem, r0, r1, r2, r3, r4, r5]; try rfl) rfl ?_
  exact ⟨rfl, al (al (Below.refl _ _) _) _⟩
theorem tkC_cons (x : Tk) (L : List Tk) : tkC (x :: L) = (tkV x).toList ++ tkC L := rfl
theorem tkC_get : ∀ (L : List Tk) (i : Nat) (hi : i < L.length) (j : Nat), j < 6 → (tkC L)[i * 6 + j]? = (tkV L[i]).toList[j]?
  | [], i, hi, _, _ => absurd hi (by simp)
  | x :: L, 0, _, j, hj => by
    rw [tkC_cons, Nat.zero_mul, Nat.zero_add, List.getElem?_append_left (by show j < 6; exact hj)]
    rfl
  | x :: L, i + 1, hi, j, hj => by
    rw [tkC_cons, List.getElem?_append_right (by show 6 ≤ _; omega)]
    show (tkC L)[(i + 1) * 6 + j - 6]? = _
    rw [show (i + 1) * 6 + j - 6 = i * 6 + j by omega]
    exact tkC_get L i (by simpa using hi) j hj
/-- A token of a row. -/
theorem tk_at {w : World} {base g cap n : Nat} {L : List Tk} (h : w.ownsRow base 40 6 (.slice (some ⟨g, 0, none⟩) n cap) n (tkC L)) {i : Nat} (hi : i < L.length) {x : Tk} (hx : L[i] = x) :
    w.cell? ⟨g, i * 6, none⟩ = some (.int .i64 x.k) ∧ w.cell? ⟨g, i * 6 + 1, none⟩ = some (.string ⟨x.t.toArray⟩) ∧ w.cell? ⟨g, i * 6 + 2, none⟩ = some (.int .i64 x.n) ∧ w.cell? ⟨g, i * 6 + 3, none⟩ = some (.int .i64 x.a) ∧ w.cell? ⟨g, i * 6 + 4, none⟩ = some (.int .i64 x.b) ∧ w.cell? ⟨g, i * 6 + 5, none⟩ = some (.int .i64 x.p) := by
  subst hx
  have key : ∀ j v, j < 6 → (tkV L[i]).toList[j]? = some v → w.cell? ⟨g, i * 6 + j, none⟩ = some v := fun j v hj hv => by
    have := h.cells (g := g) rfl (i * 6 + j) v (by rw [tkC_get L i hi j hj]; exact hv)
    rw [show (⟨g, 0, none⟩ : Addr).add (i * 6 + j) = ⟨g, 0 + (i * 6 + j), none⟩ by unfold Addr.add; split <;> simp_all] at this
    rwa [Nat.zero_add] at this
  exact ⟨key 0 _ (by omega) rfl, key 1 _ (by omega) rfl, key 2 _ (by omega) rfl, key 3 _ (by omega) rfl, key 4 _ (by omega) rfl, key 5 _ (by omega) rfl⟩
end Go.Proofs.YtkpdbbbeagnjpaaGreatDoor
