/-
  strings.SplitN at a point, four at most, by its contract. Condition: a text is no longer than a process can hold.
-/
import Derived.Deep.OwnRows
import Derived.Test.YtlmhofjiobmodaaGreatDoorP26
set_option maxRecDepth 100000
set_option maxHeartbeats 16000000
namespace Go.Proofs.YtlmhofjiobmodaaGreatDoor
open Go.RowKit Go.Lib
theorem block_setCell {w:World} {b:Nat} {cs:Array Value} {t:TypeId} {fr:Nat×Nat} (h:w.heap[b]? =some (.cells cs t fr)) (j:Nat) (u:Value):(w.setCell ⟨b,j,none⟩ u).heap[b]? =some (.cells (cs.set! j u) t fr):=by
 have hlt:=lt_of_block h;have h':w.heap[b]=.cells cs t fr:=by simpa [Array.getElem?_eq_getElem hlt] using h
 show(w.heap.modify b _)[b]? =_;rw[Array.getElem?_eq_getElem (by simpa using hlt),Array.getElem_modify_self,h'];rfl
theorem mk_1 (w:World):(Instr.makeSlice 25 (.int .i64 1) (.int .i64 1)).run Tryz.prog w=.ok (.slice (some ⟨w.heap.size,0,none⟩) 1 1) (w.alloc (.cells #[.string ByteArray.empty] 9)):=
 (run_make_row' (P:=Tryz.prog) 25 9 (.string ByteArray.empty) 16 Tryz.underlying25 (by kernel_rfl) rfl .i64 .i64 1 (by decide) (by decide) w).trans (by rw[show madeCells #[Value.string ByteArray.empty] 1=#[.string ByteArray.empty] by kernel_rfl])
theorem mk_2 (w:World):(Instr.makeSlice 25 (.int .i64 2) (.int .i64 2)).run Tryz.prog w=.ok (.slice (some ⟨w.heap.size,0,none⟩) 2 2) (w.alloc (.cells #[.string ByteArray.empty,.string ByteArray.empty] 9)):=
 (run_make_row' (P:=Tryz.prog) 25 9 (.string ByteArray.empty) 16 Tryz.underlying25 (by kernel_rfl) rfl .i64 .i64 2 (by decide) (by decide) w).trans (by rw[show madeCells #[Value.string ByteArray.empty] 2=#[.string ByteArray.empty,.string ByteArray.empty] by kernel_rfl])
theorem qtw (w:World):(Instr.makeSlice 25 (.int .i64 3) (.int .i64 3)).run Tryz.prog w=.ok (.slice (some ⟨w.heap.size,0,none⟩) 3 3) (w.alloc (.cells #[.string ByteArray.empty,.string ByteArray.empty,.string ByteArray.empty] 9)):=
 (run_make_row' (P:=Tryz.prog) 25 9 (.string ByteArray.empty) 16 Tryz.underlying25 (by kernel_rfl) rfl .i64 .i64 3 (by decide) (by decide) w).trans (by rw[show madeCells #[Value.string ByteArray.empty] 3=#[.string ByteArray.empty,.string ByteArray.empty,.string ByteArray.empty] by kernel_rfl])
theorem qth (w:World):(Instr.makeSlice 25 (.int .i64 4) (.int .i64 4)).run Tryz.prog w=.ok (.slice (some ⟨w.heap.size,0,none⟩) 4 4) (w.alloc (.cells #[.string ByteArray.empty,.string ByteArray.empty,.string ByteArray.empty,.string ByteArray.empty] 9)):=
 (run_make_row' (P:=Tryz.prog) 25 9 (.string ByteArray.empty) 16 Tryz.underlying25 (by kernel_rfl) rfl .i64 .i64 4 (by decide) (by decide) w).trans (by rw[show madeCells #[Value.string ByteArray.empty] 4=#[.string ByteArray.empty,.string ByteArray.empty,.string ByteArray.empty,.string ByteArray.empty] by kernel_rfl])
theorem qjf (l p1 p2 p3 l1 l2 l3:List UInt8) (hl:l.length≤140737488351232) (h1:qbg 46 l=some (p1,l1)) (h2:qbg 46 l1=some (p2,l2)) (h3:qbg 46 l2=some (p3,l3)) (w:World):
 Calls Tryz.prog 207 #[.string ⟨l.toArray⟩,.string ⟨#[46]⟩,.int .i64 0,.int .i64 4] w fun e w'=>e=.returned (.slice (some ⟨w.heap.size,0,none⟩) 4 4)∧w'=w.alloc (.cells #[.string ⟨p1.toArray⟩,.string ⟨p2.toArray⟩,.string ⟨p3.toArray⟩,.string ⟨l3.toArray⟩] 9):=by
 have hmk:=qth;have hmin:min 4 ((l.length:Int)+1)=4:=by have:=qa2 h1;have:=qa2 h2;have:=qa2 h3;omega
 have hi1:=qbj h1;have ea1:=qe9 h1;have eb1:=qfa h1;have cl1:=qa2 h1;have z11:(0:Int)≤p1.length:=by omega
 have z12:(p1.length:Int)≤l.length:=by omega
 have z13:(0:Int)≤p1.length+1:=by omega
 have z14:(p1.length+1:Int)≤l.length:=by omega
 have z15:(l.length:Int)≤140737488351232:=by omega
 have hi2:=qbj h2;have ea2:=qe9 h2;have eb2:=qfa h2;have cl2:=qa2 h2;have z21:(0:Int)≤p2.length:=by omega
 have z22:(p2.length:Int)≤l1.length:=by omega
 have z23:(0:Int)≤p2.length+1:=by omega
 have z24:(p2.length+1:Int)≤l1.length:=by omega
 have z25:(l1.length:Int)≤140737488351232:=by omega
 have hi3:=qbj h3;have ea3:=qe9 h3;have eb3:=qfa h3;have cl3:=qa2 h3;have z31:(0:Int)≤p3.length:=by omega
 have z32:(p3.length:Int)≤l2.length:=by omega
 have z33:(0:Int)≤p3.length+1:=by omega
 have z34:(p3.length+1:Int)≤l2.length:=by omega
 have z35:(l2.length:Int)≤140737488351232:=by omega
 clear cl1 h1 cl2 h2 cl3 h3;go_enter Tryz.func207,Tryz.ntmps207;go_wp2_with (first|(go_at_call 225;refine(hi1 _).mono ?_;rintro e w2 ⟨rfl,hw2⟩;subst hw2)|(go_at_call 225;refine(hi2 _).mono ?_;rintro e w2 ⟨rfl,hw2⟩;subst hw2)|(go_at_call 225;refine(hi3 _).mono ?_;rintro e w2 ⟨rfl,hw2⟩;subst hw2));refine wp_loop_rounds 4 ?_;rw[rounds_succ];go_wp2_with (first|(go_at_call 225;refine(hi1 _).mono ?_;rintro e w2 ⟨rfl,hw2⟩;subst hw2)|(go_at_call 225;refine(hi2 _).mono ?_;rintro e w2 ⟨rfl,hw2⟩;subst hw2)|(go_at_call 225;refine(hi3 _).mono ?_;rintro e w2 ⟨rfl,hw2⟩;subst hw2));rw[rounds_succ];go_wp2_with (first|(go_at_call 225;refine(hi1 _).mono ?_;rintro e w2 ⟨rfl,hw2⟩;subst hw2)|(go_at_call 225;refine(hi2 _).mono ?_;rintro e w2 ⟨rfl,hw2⟩;subst hw2)|(go_at_call 225;refine(hi3 _).mono ?_;rintro e w2 ⟨rfl,hw2⟩;subst hw2));rw[rounds_succ];go_wp2_with (first|(go_at_call 225;refine(hi1 _).mono ?_;rintro e w2 ⟨rfl,hw2⟩;subst hw2)|(go_at_call 225;refine(hi2 _).mono ?_;rintro e w2 ⟨rfl,hw2⟩;subst hw2)|(go_at_call 225;refine(hi3 _).mono ?_;rintro e w2 ⟨rfl,hw2⟩;subst hw2));rw[rounds_succ];go_wp2_with (first|(go_at_call 225;refine(hi1 _).mono ?_;rintro e w2 ⟨rfl,hw2⟩;subst hw2)|(go_at_call 225;refine(hi2 _).mono ?_;rintro e w2 ⟨rfl,hw2⟩;subst hw2)|(go_at_call 225;refine(hi3 _).mono ?_;rintro e w2 ⟨rfl,hw2⟩;subst hw2));go_ret;exact⟨rfl,rfl⟩
theorem qnm (l:List UInt8) (hl:l.length≤140737488351232) (hmin:min 4 ((l.length:Int)+1)=1) (w:World):
 Calls Tryz.prog 207 #[.string ⟨l.toArray⟩,.string ⟨#[46]⟩,.int .i64 0,.int .i64 4] w fun e w'=>e=.returned (.slice (some ⟨w.heap.size,0,none⟩) 1 1)∧Below w.heap.size w w':=by
 have hmk:=mk_1;go_enter Tryz.func207,Tryz.ntmps207;go_wp2_with (fail);refine wp_loop_rounds 1 ?_;rw[rounds_succ];go_wp2_with (fail);go_ret;exact⟨rfl,al (Below.refl _ _) _⟩
theorem qnn (l:List UInt8) (hl:l.length≤140737488351232) (hmin:min 4 ((l.length:Int)+1)=2) (Bj:qbg 46 l=none) (w:World):
 Calls Tryz.prog 207 #[.string ⟨l.toArray⟩,.string ⟨#[46]⟩,.int .i64 0,.int .i64 4] w fun e w'=>e=.returned (.slice (some ⟨w.heap.size,0,none⟩) 1 2)∧Below w.heap.size w w':=by
 have hmk:=mk_2;have hn:=index_none Bj;clear Bj;go_enter Tryz.func207,Tryz.ntmps207;go_wp2_with (first|(go_at_call 225;refine(hn _).mono ?_;rintro e w2 ⟨rfl,hw2⟩;subst hw2));refine wp_loop_rounds 1 ?_;rw[rounds_succ];go_wp2_with (first|(go_at_call 225;refine(hn _).mono ?_;rintro e w2 ⟨rfl,hw2⟩;subst hw2));go_ret;exact⟨rfl,al (Below.refl _ _) _⟩
theorem qno (l p1 l1:List UInt8) (hl:l.length≤140737488351232) (hmin:min 4 ((l.length:Int)+1)=2) (h1:qbg 46 l=some (p1,l1)) (w:World):
 Calls Tryz.prog 207 #[.string ⟨l.toArray⟩,.string ⟨#[46]⟩,.int .i64 0,.int .i64 4] w fun e w'=>e=.returned (.slice (some ⟨w.heap.size,0,none⟩) 2 2)∧Below w.heap.size w w':=by
 have hmk:=mk_2;have hi1:=qbj h1;have ea1:=qe9 h1;have eb1:=qfa h1;have cl1:=qa2 h1;have z11:(0:Int)≤p1.length:=by omega
 have z12:(p1.length:Int)≤l.length:=by omega
 have z13:(0:Int)≤p1.length+1:=by omega
 have z14:(p1.length+1:Int)≤l.length:=by omega
 have z15:(l.length:Int)≤140737488351232:=by omega
 clear cl1 h1;go_enter Tryz.func207,Tryz.ntmps207;go_wp2_with (first|(go_at_call 225;refine(hi1 _).mono ?_;rintro e w2 ⟨rfl,hw2⟩;subst hw2));refine wp_loop_rounds 2 ?_;rw[rounds_succ];go_wp2_with (first|(go_at_call 225;refine(hi1 _).mono ?_;rintro e w2 ⟨rfl,hw2⟩;subst hw2));rw[rounds_succ];go_wp2_with (first|(go_at_call 225;refine(hi1 _).mono ?_;rintro e w2 ⟨rfl,hw2⟩;subst hw2));go_ret;exact⟨rfl,al (Below.refl _ _) _⟩
theorem qnp (l:List UInt8) (hl:l.length≤140737488351232) (hmin:min 4 ((l.length:Int)+1)=3) (Bj:qbg 46 l=none) (w:World):
 Calls Tryz.prog 207 #[.string ⟨l.toArray⟩,.string ⟨#[46]⟩,.int .i64 0,.int .i64 4] w fun e w'=>e=.returned (.slice (some ⟨w.heap.size,0,none⟩) 1 3)∧Below w.heap.size w w':=by
 have hmk:=qtw;have hn:=index_none Bj;clear Bj;go_enter Tryz.func207,Tryz.ntmps207;go_wp2_with (first|(go_at_call 225;refine(hn _).mono ?_;rintro e w2 ⟨rfl,hw2⟩;subst hw2));refine wp_loop_rounds 1 ?_;rw[rounds_succ];go_wp2_with (first|(go_at_call 225;refine(hn _).mono ?_;rintro e w2 ⟨rfl,hw2⟩;subst hw2));go_ret;exact⟨rfl,al (Below.refl _ _) _⟩
theorem qnq (l p1 l1:List UInt8) (hl:l.length≤140737488351232) (hmin:min 4 ((l.length:Int)+1)=3) (h1:qbg 46 l=some (p1,l1)) (Bj:qbg 46 l1=none) (w:World):
 Calls Tryz.prog 207 #[.string ⟨l.toArray⟩,.string ⟨#[46]⟩,.int .i64 0,.int .i64 4] w fun e w'=>e=.returned (.slice (some ⟨w.heap.size,0,none⟩) 2 3)∧Below w.heap.size w w':=by
 have hmk:=qtw;have hi1:=qbj h1;have ea1:=qe9 h1;have eb1:=qfa h1;have cl1:=qa2 h1;have z11:(0:Int)≤p1.length:=by omega
 have z12:(p1.length:Int)≤l.length:=by omega
 have z13:(0:Int)≤p1.length+1:=by omega
 have z14:(p1.length+1:Int)≤l.length:=by omega
 have z15:(l.length:Int)≤140737488351232:=by omega
 have hn:=index_none Bj;clear cl1 h1 Bj;go_enter Tryz.func207,Tryz.ntmps207;go_wp2_with (first|(go_at_call 225;refine(hi1 _).mono ?_;rintro e w2 ⟨rfl,hw2⟩;subst hw2)|(go_at_call 225;refine(hn _).mono ?_;rintro e w2 ⟨rfl,hw2⟩;subst hw2));refine wp_loop_rounds 2 ?_;rw[rounds_succ];go_wp2_with (first|(go_at_call 225;refine(hi1 _).mono ?_;rintro e w2 ⟨rfl,hw2⟩;subst hw2)|(go_at_call 225;refine(hn _).mono ?_;rintro e w2 ⟨rfl,hw2⟩;subst hw2));rw[rounds_succ];go_wp2_with (first|(go_at_call 225;refine(hi1 _).mono ?_;rintro e w2 ⟨rfl,hw2⟩;subst hw2)|(go_at_call 225;refine(hn _).mono ?_;rintro e w2 ⟨rfl,hw2⟩;subst hw2));go_ret;exact⟨rfl,al (Below.refl _ _) _⟩
theorem qnr (l p1 l1 p2 l2:List UInt8) (hl:l.length≤140737488351232) (hmin:min 4 ((l.length:Int)+1)=3) (h1:qbg 46 l=some (p1,l1)) (h2:qbg 46 l1=some (p2,l2)) (w:World):
 Calls Tryz.prog 207 #[.string ⟨l.toArray⟩,.string ⟨#[46]⟩,.int .i64 0,.int .i64 4] w fun e w'=>e=.returned (.slice (some ⟨w.heap.size,0,none⟩) 3 3)∧Below w.heap.size w w':=by
 have hmk:=qtw;have hi1:=qbj h1;have ea1:=qe9 h1;have eb1:=qfa h1;have cl1:=qa2 h1;have z11:(0:Int)≤p1.length:=by omega
 have z12:(p1.length:Int)≤l.length:=by omega
 have z13:(0:Int)≤p1.length+1:=by omega
 have z14:(p1.length+1:Int)≤l.length:=by omega
 have z15:(l.length:Int)≤140737488351232:=by omega
 have hi2:=qbj h2;have ea2:=qe9 h2;have eb2:=qfa h2;have cl2:=qa2 h2;have z21:(0:Int)≤p2.length:=by omega
 have z22:(p2.length:Int)≤l1.length:=by omega
 have z23:(0:Int)≤p2.length+1:=by omega
 have z24:(p2.length+1:Int)≤l1.length:=by omega
 have z25:(l1.length:Int)≤140737488351232:=by omega
 clear cl1 h1 cl2 h2;go_enter Tryz.func207,Tryz.ntmps207;go_wp2_with (first|(go_at_call 225;refine(hi1 _).mono ?_;rintro e w2 ⟨rfl,hw2⟩;subst hw2)|(go_at_call 225;refine(hi2 _).mono ?_;rintro e w2 ⟨rfl,hw2⟩;subst hw2));refine wp_loop_rounds 3 ?_;rw[rounds_succ];go_wp2_with (first|(go_at_call 225;refine(hi1 _).mono ?_;rintro e w2 ⟨rfl,hw2⟩;subst hw2)|(go_at_call 225;refine(hi2 _).mono ?_;rintro e w2 ⟨rfl,hw2⟩;subst hw2));rw[rounds_succ];go_wp2_with (first|(go_at_call 225;refine(hi1 _).mono ?_;rintro e w2 ⟨rfl,hw2⟩;subst hw2)|(go_at_call 225;refine(hi2 _).mono ?_;rintro e w2 ⟨rfl,hw2⟩;subst hw2));rw[rounds_succ];go_wp2_with (first|(go_at_call 225;refine(hi1 _).mono ?_;rintro e w2 ⟨rfl,hw2⟩;subst hw2)|(go_at_call 225;refine(hi2 _).mono ?_;rintro e w2 ⟨rfl,hw2⟩;subst hw2));go_ret;exact⟨rfl,al (Below.refl _ _) _⟩
theorem qns (l:List UInt8) (hl:l.length≤140737488351232) (hmin:min 4 ((l.length:Int)+1)=4) (Bj:qbg 46 l=none) (w:World):
 Calls Tryz.prog 207 #[.string ⟨l.toArray⟩,.string ⟨#[46]⟩,.int .i64 0,.int .i64 4] w fun e w'=>e=.returned (.slice (some ⟨w.heap.size,0,none⟩) 1 4)∧Below w.heap.size w w':=by
 have hmk:=qth;have hn:=index_none Bj;clear Bj;go_enter Tryz.func207,Tryz.ntmps207;go_wp2_with (first|(go_at_call 225;refine(hn _).mono ?_;rintro e w2 ⟨rfl,hw2⟩;subst hw2));refine wp_loop_rounds 1 ?_;rw[rounds_succ];go_wp2_with (first|(go_at_call 225;refine(hn _).mono ?_;rintro e w2 ⟨rfl,hw2⟩;subst hw2));go_ret;exact⟨rfl,al (Below.refl _ _) _⟩
theorem qnt (l p1 l1:List UInt8) (hl:l.length≤140737488351232) (hmin:min 4 ((l.length:Int)+1)=4) (h1:qbg 46 l=some (p1,l1)) (Bj:qbg 46 l1=none) (w:World):
 Calls Tryz.prog 207 #[.string ⟨l.toArray⟩,.string ⟨#[46]⟩,.int .i64 0,.int .i64 4] w fun e w'=>e=.returned (.slice (some ⟨w.heap.size,0,none⟩) 2 4)∧Below w.heap.size w w':=by
 have hmk:=qth;have hi1:=qbj h1;have ea1:=qe9 h1;have eb1:=qfa h1;have cl1:=qa2 h1;have z11:(0:Int)≤p1.length:=by omega
 have z12:(p1.length:Int)≤l.length:=by omega
 have z13:(0:Int)≤p1.length+1:=by omega
 have z14:(p1.length+1:Int)≤l.length:=by omega
 have z15:(l.length:Int)≤140737488351232:=by omega
 have hn:=index_none Bj;clear cl1 h1 Bj;go_enter Tryz.func207,Tryz.ntmps207;go_wp2_with (first|(go_at_call 225;refine(hi1 _).mono ?_;rintro e w2 ⟨rfl,hw2⟩;subst hw2)|(go_at_call 225;refine(hn _).mono ?_;rintro e w2 ⟨rfl,hw2⟩;subst hw2));refine wp_loop_rounds 2 ?_;rw[rounds_succ];go_wp2_with (first|(go_at_call 225;refine(hi1 _).mono ?_;rintro e w2 ⟨rfl,hw2⟩;subst hw2)|(go_at_call 225;refine(hn _).mono ?_;rintro e w2 ⟨rfl,hw2⟩;subst hw2));rw[rounds_succ];go_wp2_with (first|(go_at_call 225;refine(hi1 _).mono ?_;rintro e w2 ⟨rfl,hw2⟩;subst hw2)|(go_at_call 225;refine(hn _).mono ?_;rintro e w2 ⟨rfl,hw2⟩;subst hw2));go_ret;exact⟨rfl,al (Below.refl _ _) _⟩
theorem qnu (l p1 l1 p2 l2:List UInt8) (hl:l.length≤140737488351232) (hmin:min 4 ((l.length:Int)+1)=4) (h1:qbg 46 l=some (p1,l1)) (h2:qbg 46 l1=some (p2,l2)) (Bj:qbg 46 l2=none) (w:World):
 Calls Tryz.prog 207 #[.string ⟨l.toArray⟩,.string ⟨#[46]⟩,.int .i64 0,.int .i64 4] w fun e w'=>e=.returned (.slice (some ⟨w.heap.size,0,none⟩) 3 4)∧Below w.heap.size w w':=by
 have hmk:=qth;have hi1:=qbj h1;have ea1:=qe9 h1;have eb1:=qfa h1;have cl1:=qa2 h1;have z11:(0:Int)≤p1.length:=by omega
 have z12:(p1.length:Int)≤l.length:=by omega
 have z13:(0:Int)≤p1.length+1:=by omega
 have z14:(p1.length+1:Int)≤l.length:=by omega
 have z15:(l.length:Int)≤140737488351232:=by omega
 have hi2:=qbj h2;have ea2:=qe9 h2;have eb2:=qfa h2;have cl2:=qa2 h2;have z21:(0:Int)≤p2.length:=by omega
 have z22:(p2.length:Int)≤l1.length:=by omega
 have z23:(0:Int)≤p2.length+1:=by omega
 have z24:(p2.length+1:Int)≤l1.length:=by omega
 have z25:(l1.length:Int)≤140737488351232:=by omega
 have hn:=index_none Bj;clear cl1 h1 cl2 h2 Bj;go_enter Tryz.func207,Tryz.ntmps207;go_wp2_with (first|(go_at_call 225;refine(hi1 _).mono ?_;rintro e w2 ⟨rfl,hw2⟩;subst hw2)|(go_at_call 225;refine(hi2 _).mono ?_;rintro e w2 ⟨rfl,hw2⟩;subst hw2)|(go_at_call 225;refine(hn _).mono ?_;rintro e w2 ⟨rfl,hw2⟩;subst hw2));refine wp_loop_rounds 3 ?_;rw[rounds_succ];go_wp2_with (first|(go_at_call 225;refine(hi1 _).mono ?_;rintro e w2 ⟨rfl,hw2⟩;subst hw2)|(go_at_call 225;refine(hi2 _).mono ?_;rintro e w2 ⟨rfl,hw2⟩;subst hw2)|(go_at_call 225;refine(hn _).mono ?_;rintro e w2 ⟨rfl,hw2⟩;subst hw2));rw[rounds_succ];go_wp2_with (first|(go_at_call 225;refine(hi1 _).mono ?_;rintro e w2 ⟨rfl,hw2⟩;subst hw2)|(go_at_call 225;refine(hi2 _).mono ?_;rintro e w2 ⟨rfl,hw2⟩;subst hw2)|(go_at_call 225;refine(hn _).mono ?_;rintro e w2 ⟨rfl,hw2⟩;subst hw2));rw[rounds_succ];go_wp2_with (first|(go_at_call 225;refine(hi1 _).mono ?_;rintro e w2 ⟨rfl,hw2⟩;subst hw2)|(go_at_call 225;refine(hi2 _).mono ?_;rintro e w2 ⟨rfl,hw2⟩;subst hw2)|(go_at_call 225;refine(hn _).mono ?_;rintro e w2 ⟨rfl,hw2⟩;subst hw2));go_ret;exact⟨rfl,al (Below.refl _ _) _⟩
end Go.Proofs.YtlmhofjiobmodaaGreatDoor

