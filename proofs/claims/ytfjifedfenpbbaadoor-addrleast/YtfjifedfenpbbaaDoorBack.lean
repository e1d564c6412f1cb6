/-
  AddrBack, walked: whatever it is given, it answers true; nothing that was there has turned. Conditions: the library's table of powers of ten reads as its text lays it; the text takes no more than a process can hold.
-/
import Derived.Test.YtfjifedfenpbbaaDoorLBack
import Derived.Test.YtfjifedfenpbbaaDoorAwake
namespace Go.Proofs.YtfjifedfenpbbaaDoor
open Go.RowKit Go.Lib

/-- What a walk keeps: the table, what was there, the prefix that came in. -/
structure St (w : World) (pb : Nat) (a k : Int) (v : World) : Prop where
  tab : Tab v
  below : Below w.heap.size w v
  at' : v.heap[pb]? = some (.cells #[.int .i64 a, .int .i64 k] 28 (0, 0))
theorem St.next {w : World} {pb : Nat} {a k : Int} {v v' : World} (h : St w pb a k v) (x : Below v.heap.size v v') : St w pb a k v' := ⟨h.tab.below x, bt h.below x (Nat.le_refl _), blk x h.at'⟩
theorem St.alloc {w : World} {pb : Nat} {a k : Int} {v : World} (h : St w pb a k v) (o : Obj) : St w pb a k (v.alloc o) := h.next (al (Below.refl _ _) o)
theorem St.cells {w : World} {pb : Nat} {a k : Int} {v : World} (h : St w pb a k v) : v.cell? ⟨pb, 0, none⟩ = some (.int .i64 a) ∧ v.cell? ⟨pb, 1, none⟩ = some (.int .i64 k) := ⟨(two_get h.at').1, (two_get h.at').2.1⟩

set_option maxRecDepth 100000 in
set_option maxHeartbeats 8000000 in
theorem addrBack_any (n a k : Int) (l : List UInt8) (hl : l.length ≤ 140737488351232) (w : World) (ht : Tab w) :
    Calls Tryd.prog 6 #[.int .i64 n, .agg #[.int .i64 a, .int .i64 k], .string ⟨l.toArray⟩] w fun e w' => e = .returned (.bool true) ∧ Below w.heap.size w w' := by
  by_cases hb : (2147483647 : Int) < l.length
  · go_enter Tryd.func6, Tryd.ntmps6
    go_wp2
    go_ret
    exact ⟨rfl, al (Below.refl _ _) _⟩
  have S0 : St w w.heap.size a k (w.alloc (.cells #[.int .i64 a, .int .i64 k] 28)) := ⟨ht.below (al (Below.refl _ _) _), al (Below.refl _ _) _, heap_alloc_new w _⟩
  have d1 := fun (W : World) (h : St w w.heap.size a k W) => print_any n W h.tab
  have d2 := fun (h : prtE n = 0) (W : World) => parse_any (prtS n) (by obtain ⟨m, _, _, e⟩ := prt_ok h; rw [e]; exact Nat.le_trans (dots_length _ _ _ _ (by omega) (by omega) (by omega) (by omega)) (by decide)) W
  have d3 := fun (h : prtE n = 0) (W : World) => parsePrefix_any (prtS n) (by obtain ⟨m, _, _, e⟩ := prt_ok h; rw [e]; exact Nat.le_trans (dots_length _ _ _ _ (by omega) (by omega) (by omega) (by omega)) (by decide)) W
  have d4 := fun (W : World) => range_any n 32 W
  have d5 := fun (W : World) (h : St w w.heap.size a k W) => printPrefix_any a k W h.tab
  have d6 := fun (h : pprE a k = 0) (W : World) => parsePrefix_any (pprS a k) (ppr_len h) W
  have d7 := fun (W : World) => parse_any l hl W
  have d8 := fun (W : World) (h : St w w.heap.size a k W) => print_any (parN l) W h.tab
  have d9 := fun (W : World) => parsePrefix_any l hl W
  have d10 := fun (W : World) (h : St w w.heap.size a k W) => printPrefix_any (pfxA l) (pfxB l) W h.tab
  have HL := hide hl
  have hl3 : ¬ (9223372036854775807 < l.length + 3) := by omega
  clear ht hl
  go_enter Tryd.func6, Tryd.ntmps6
  go_wp2_with (first
    | (go_at_call 8; generalize w.alloc (.cells #[.int .i64 a, .int .i64 k] 28) = W0 at *; refine (awake_any W0 S0.tab).mono ?_; rintro e w1 ⟨rfl, x1⟩; have S1 := S0.next x1; clear x1 S0)
    | (go_at_call 13; refine (d1 w1 S1).mono ?_; rintro e w2 ⟨rfl, x2⟩; have S2 := S1.next x2; obtain ⟨p0, p1⟩ := S2.cells; clear x2 S1 d1)
    | (go_at_call 9; have hz : prtE n = 0 := eq_of_beq (by assumption); have q := d2 hz w2; rw [(prt_back hz).1, (prt_back hz).2.1] at q; refine q.mono ?_; rintro e w3 ⟨rfl, x3⟩; have S3 := S2.next x3; clear x3 d2 q S2)
    | (go_at_call 11; have hz : prtE n = 0 := eq_of_beq (by assumption); have q := d3 hz w3; rw [(prt_back hz).2.2.1, (prt_back hz).2.2.2.1, (prt_back hz).2.2.2.2.1] at q; refine q.mono ?_; rintro e w4 ⟨rfl, x4⟩; have S4 := (S3.next x4).alloc (.cells #[.int .i64 n, .int .i64 32] 28); clear x4 d3 q S3)
    | (go_at_call 17; have hz : prtE n = 0 := eq_of_beq (by assumption); have q := d4 (w4.alloc (.cells #[.int .i64 n, .int .i64 32] 28)); rw [(prt_back hz).2.2.2.2.2.1, (prt_back hz).2.2.2.2.2.2.1, (prt_back hz).2.2.2.2.2.2.2] at q; refine q.mono ?_; rintro e w5 ⟨rfl, x5⟩; have S5 := (S4.next x5).alloc (.cells #[.int .i64 n, .int .i64 n] 36); obtain ⟨p2, p3⟩ := S5.cells; clear x5 d4 q S4)
    | (go_at_call 15; refine (d5 _ (by assumption)).mono ?_; rintro e w6 ⟨rfl, x6⟩; have S6 := St.next (by assumption) x6; clear x6 d5)
    | (go_at_call 11; have hz : pprE a k = 0 := eq_of_beq (by assumption); have q := d6 hz w6; rw [(ppr_back hz).1, (ppr_back hz).2.1, (ppr_back hz).2.2] at q; refine q.mono ?_; rintro e w7 ⟨rfl, x7⟩; have S7 := (S6.next x7).alloc (.cells #[.int .i64 a, .int .i64 k] 28); obtain ⟨p4, p5⟩ := S7.cells; clear x7 d6 q)
    | (go_at_call 9; refine (d7 _).mono ?_; rintro e w8 ⟨rfl, x8⟩; have S8 := St.next (by assumption) x8; clear x8 d7)
    | (go_at_call 13; have hz : parE l = 0 := eq_of_beq (by assumption); have q := d8 w8 S8; rw [(par_back hz).1, (par_back hz).2] at q; refine q.mono ?_; rintro e w9 ⟨rfl, x9⟩; have S9 := S8.next x9; clear x9 d8 q)
    | (go_at_call 11; refine (d9 _).mono ?_; rintro e w10 ⟨rfl, x10⟩; have S10 := (St.next (by assumption) x10).alloc (.cells #[.int .i64 (pfxA l), .int .i64 (pfxB l)] 28); clear x10 d9)
    | (go_at_call 15; have hz : pfxE l = 0 := eq_of_beq (by assumption); have q := d10 _ S10; rw [(pfx_back hz).1] at q; have hv := (pfx_back hz).2; generalize pprS (pfxA l) (pfxB l) = V at *; refine q.mono ?_; rintro e w11 ⟨rfl, x11⟩; have S11 := S10.next x11; have HV := hide hv; clear x11 d10 q hv))
  all_goals first
    | (go_ret; exact ⟨rfl, St.below (by assumption)⟩)
    | (exfalso
       have hv := HV.out.resolve_left (by assumption)
       have ht : ((⟨l.toArray⟩ : ByteArray) ++ ⟨#[47, 51, 50]⟩).toList = l ++ [47, 51, 50] := by rw [ByteArray.toList_eq]; simp
       simp_all)
end Go.Proofs.YtfjifedfenpbbaaDoor
