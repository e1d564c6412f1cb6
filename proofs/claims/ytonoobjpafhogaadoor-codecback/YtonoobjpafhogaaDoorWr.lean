/-
  The codec's Writer by its contracts: NewWriter, Num, Text, Raw, Done. Conditions: the numbers are ints; all bytes together are at most 2^47; for Done behind an error: the cell of errors.errorType holds the handle of 'error'.
-/
import Derived.Test.YtonoobjpafhogaaDoorPut
import Derived.Test.YtonoobjpafhogaaDoorNum2
import Derived.Test.YtonoobjpafhogaaDoorAsHit
import Derived.Laws.BytesArg
namespace Go.Proofs.YtonoobjpafhogaaDoor
open Go.RowKit Go.Lib

/-- The room of a Writer that was asked for. -/
def roomOf (n : Int) : Nat := n.toNat

theorem newWriter_any (n : Int) (hn : n ≤ 9223372036854775807) (w : World) :
    Calls Tryd.prog 13 #[.int .i64 n] w fun e w' => e = .returned (.pointer (some ⟨w.heap.size, 0, none⟩)) ∧ WAt 73 (fun k => k = w.heap.size) w' w.heap.size (roomOf n) (errOf 0) [] ∧ w' = w.alloc (.cells #[.slice none 0 0, .int .i64 (roomOf n), .nilIface] 73) := by
  have hw : WAt 73 (fun k => k = w.heap.size) (w.alloc (.cells #[.slice none 0 0, .int .i64 (roomOf n), .nilIface] 73)) w.heap.size (roomOf n) (errOf 0) [] := by
    refine ⟨none, 0, ?_, heap_alloc_new w _, World.ownsRow_nil _ _ _ _⟩
    rintro k (rfl | ⟨a, ha, _⟩)
    · rfl
    · cases ha
  have HW := hide hw
  clear hw
  by_cases h : n < 0
  · have e : roomOf n = 0 := by simp [roomOf]; omega
    rw [e] at HW ⊢
    go_enter Tryd.func13, Tryd.ntmps13
    go_wp2
    go_ret
    exact ⟨rfl, HW.out, rfl⟩
  · obtain ⟨m, rfl⟩ := Int.eq_ofNat_of_zero_le (show 0 ≤ n by omega)
    have e : roomOf (m : Int) = m := by simp [roomOf]
    rw [e] at HW ⊢
    go_enter Tryd.func13, Tryd.ntmps13
    go_wp2
    go_ret
    exact ⟨rfl, HW.out, rfl⟩

theorem WAt.below {T : TypeId} {F : Nat → Prop} {w w' : World} {b most : Nat} {x : Value} {S : List UInt8} (h : WAt T F w b most x S) (hb : Below w.heap.size w w') : WAt T F w' b most x S :=
  h.kept (Kept.of_below (F := fun _ => False) hb) (fun _ _ h => h)
theorem two_steps {T : TypeId} {F : Nat → Prop} {w w1 w' : World} {b most : Nat} {x : Value} {S : List UInt8} (hb : Below w.heap.size w w1) (h : WAt T (fun k => F k ∨ w1.heap.size ≤ k) w' b most x S) (hk : Kept F w1 w') :
    WAt T (fun k => F k ∨ w.heap.size ≤ k) w' b most x S ∧ Kept F w w' :=
  ⟨h.mono (fun _ hk _ => hk.imp_right (fun h => Nat.le_trans hb.size h)), (Kept.of_below hb).trans hk⟩

theorem numS_length (s n : Int) : (numS s n).length ≤ 8 := by
  unfold numS
  split
  · rw [be_length]; omega
  · simp
theorem textS_length (s : List UInt8) : (textS s).length ≤ s.length + 2 := by
  unfold textS
  split
  · simp
  · simp [be_length]; omega
theorem str_toList (l : List UInt8) : (str l).data.toList = l := by simp [str]

theorem wNum_any (F : Nat → Prop) (w : World) (b most : Nat) (E : Int) (S : List UInt8) (s n : Int) (hn : n ≤ 9223372036854775807) (hm : most ≤ 9223372036854775807) (hS : S.length + 8 ≤ 140737488355328) (h : WAt 73 F w b most (errOf E) S) :
    Calls Tryd.prog 32 #[.pointer (some ⟨b, 0, none⟩), .int .i64 s, .int .i64 n] w fun e w' => e = .returned (.tuple #[]) ∧ WAt 73 (fun k => F k ∨ w.heap.size ≤ k) w' b most (errOf (putP most E S (numS s n) (numC s n)).1) (putP most E S (numS s n) (numC s n)).2 ∧ Kept F w w' := by
  have hl := numS_length s n
  have H := hide h
  clear h
  go_enter Tryd.func32, Tryd.ntmps32
  go_wp2_with fail
  refine (numberBytes_any n s hn _).mono ?_
  rintro e w1 ⟨rfl, hb1⟩
  have HB := hide hb1
  clear hb1
  go_wp2_with fail
  refine (put_any F w1 b most E (numC s n) S (str (numS s n)) hm (by rw [str_size]; omega) (H.out.below HB.out)).mono ?_
  rintro e w2 ⟨rfl, h2, k2⟩
  have H2 := hide h2
  have K2 := hide k2
  clear h2 k2
  go_wp2
  go_end0
  rw [str_toList] at H2
  exact ⟨rfl, two_steps HB.out H2.out K2.out⟩

theorem wText_any (F : Nat → Prop) (w : World) (b most : Nat) (E : Int) (S : List UInt8) (s : ByteArray) (hm : most ≤ 9223372036854775807) (hS : S.length + s.size + 2 ≤ 140737488355328) (h : WAt 73 F w b most (errOf E) S) :
    Calls Tryd.prog 33 #[.pointer (some ⟨b, 0, none⟩), .string s] w fun e w' => e = .returned (.tuple #[]) ∧ WAt 73 (fun k => F k ∨ w.heap.size ≤ k) w' b most (errOf (putP most E S (textS s.data.toList) (textC s.data.toList)).1) (putP most E S (textS s.data.toList) (textC s.data.toList)).2 ∧ Kept F w w' := by
  have hl := textS_length s.data.toList
  have hl2 : s.data.toList.length = s.size := by simp
  have hl3 : (str (textS s.data.toList)).size ≤ s.size + 2 := by rw [str_size]; omega
  clear hl hl2
  have H := hide h
  clear h
  go_enter Tryd.func33, Tryd.ntmps33
  go_wp2_with fail
  refine (textBytes_any s (by omega) _).mono ?_
  rintro e w1 ⟨rfl, hb1⟩
  have HB := hide hb1
  clear hb1
  go_wp2_with fail
  refine (put_any F w1 b most E (textC s.data.toList) S (str (textS s.data.toList)) hm (by omega) (H.out.below HB.out)).mono ?_
  rintro e w2 ⟨rfl, h2, k2⟩
  have H2 := hide h2
  have K2 := hide k2
  clear h2 k2
  go_wp2
  go_end0
  rw [str_toList] at H2
  exact ⟨rfl, two_steps HB.out H2.out K2.out⟩

theorem wRaw_any (F : Nat → Prop) (w : World) (b most : Nat) (E : Int) (S : List UInt8) (s : ByteArray) (hm : most ≤ 9223372036854775807) (hS : S.length + s.size ≤ 140737488355328) (h : WAt 73 F w b most (errOf E) S) :
    Calls Tryd.prog 34 #[.pointer (some ⟨b, 0, none⟩), .string s] w fun e w' => e = .returned (.tuple #[]) ∧ WAt 73 (fun k => F k ∨ w.heap.size ≤ k) w' b most (errOf (putP most E S s.data.toList 0).1) (putP most E S s.data.toList 0).2 ∧ Kept F w w' := by
  have H := hide h
  clear h
  go_enter Tryd.func34, Tryd.ntmps34
  go_wp2_with fail
  refine (put_any F w b most E 0 S s hm hS H.out).mono ?_
  rintro e w2 ⟨rfl, h2, k2⟩
  have H2 := hide h2
  have K2 := hide k2
  clear h2 k2
  go_wp2
  go_end0
  exact ⟨rfl, H2.out, K2.out⟩

theorem nums_str (S : List UInt8) : strOfNums (S.map fun c => (c.toNat : Int)) = str S := by
  have e : ((S.map fun c => (c.toNat : Int)).map fun n => UInt8.ofNat n.toNat) = S := by
    rw [List.map_map]
    conv => rhs; rw [← List.map_id S]
    apply List.map_congr_left
    intro c _
    simp
  simp only [strOfNums, str, e]
/-- The bytes of a row, as a string. -/
theorem conv_own (w : World) (ao : Option Addr) (cap : Nat) (S : List UInt8) (h : w.ownsRow 0 5 1 (.slice ao S.length cap) S.length (cellsOf S)) :
    (convert 65 9 (.slice ao S.length cap)).run Tryd.prog w = .ok (.string (str S)) w := by
  rcases h.2 with ⟨hv, hn⟩ | ⟨g, c, cur, hv, hb, hg, hnc, hcm, hcs, htake⟩
  · obtain ⟨rfl, h0, rfl⟩ : ao = none ∧ S.length = 0 ∧ cap = 0 := by injection hv with a b c; exact ⟨a, b, c⟩
    have : S = [] := List.eq_nil_of_length_eq_zero h0
    subst this
    exact run_convert_bytes_nil w 65 5 Tryd.underlying65 Tryd.underlying5 0 0 9 Tryd.underlying9
  · obtain ⟨rfl, _, rfl⟩ : ao = some ⟨g, 0, none⟩ ∧ S.length = S.length ∧ cap = c := by injection hv with a b c; exact ⟨a, b, c⟩
    have hc := h.cells (g := g) rfl
    have hr := run_convert_bytes_arg (P := Tryd.prog) w 65 5 Tryd.underlying65 Tryd.underlying5 g 0 S.length cap (S.map fun c => (c.toNat : Int)) (by simp) (fun i hi => by
      have := hc i (.int .u8 (S[i]).toNat) (by simp [cellsOf, hi])
      rw [show (⟨g, 0, none⟩ : Addr).add i = ⟨g, i, none⟩ from by unfold Addr.add; split <;> simp_all] at this
      simp only [Nat.zero_add]
      rw [List.getD_eq_getElem?_getD, List.getElem?_map, List.getElem?_eq_getElem hi]
      simpa using this) 9 Tryd.underlying9
    rw [hr, nums_str]

/-- Done of a Writer. -/
def doneS (E : Int) (S : List UInt8) : List UInt8 := if E = 0 then S else []
theorem wDone_any (F : Nat → Prop) (w : World) (b most : Nat) (E : Int) (S : List UInt8) (hg : HG w) (h : WAt 73 F w b most (errOf E) S) :
    Calls Tryd.prog 27 #[.pointer (some ⟨b, 0, none⟩)] w fun e w' => e = .returned (.tuple #[.string (str (doneS E S)), .int .i64 E]) ∧ Below w.heap.size w w' := by
  obtain ⟨ao, cap, hf, hc⟩ := h
  obtain ⟨h0, h1, h2, f0, f1, f2⟩ := hc.cell
  have hcv := conv_own w ao cap S hc.2
  clear hc hf
  have HGG := hide hg
  clear hg
  by_cases hE : E = 0
  · subst hE
    rw [errOf_zero] at h2
    have e : doneS 0 S = S := by simp [doneS]
    rw [e]
    clear e
    go_enter Tryd.func27, Tryd.ntmps27
    go_wp2
    go_ret2
    exact ⟨rfl, Below.refl _ _⟩
  · rw [errOf_ne hE] at h2
    have e : doneS E S = [] := by simp [doneS, hE]
    rw [e]
    clear e hE hcv
    go_enter Tryd.func27, Tryd.ntmps27
    go_wp2_with (go_at_call 44; refine (codeOf_fault E _ HGG.out).mono ?_; rintro e w' ⟨rfl, hb⟩)
    go_ret2
    exact ⟨rfl, hb⟩
end Go.Proofs.YtonoobjpafhogaaDoor
