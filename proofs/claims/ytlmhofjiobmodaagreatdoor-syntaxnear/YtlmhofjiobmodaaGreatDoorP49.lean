/-
  The document's Right, Print, PrintPrefix, Range by their contracts. No condition.
-/
import Derived.Deep.RegionHeld3
import Derived.Test.YtlmhofjiobmodaaGreatDoorP48
import Derived.Test.YtlmhofjiobmodaaGreatDoorP30
import Derived.Test.YtlmhofjiobmodaaGreatDoorP31
import Derived.Test.YtlmhofjiobmodaaGreatDoorP36
set_option maxRecDepth 100000
set_option maxHeartbeats 16000000
namespace Go.Proofs.YtlmhofjiobmodaaGreatDoor
open Go.RowKit Go.Lib
theorem qe7 (a k:Int) (w:World):Calls Tryz.prog 151 #[.agg #[.int .i64 a,.int .i64 k]] w fun e w'=>e=.returned (.bool (decide (Pfx a k)))∧Below w.heap.size w w':=by
 have hB:Below w.heap.size w (w.alloc (.cells #[.int .i64 a,.int .i64 k] 47)):=al (Below.refl _ _) _;have q0:(w.alloc (.cells #[.int .i64 a,.int .i64 k] 47)).cell? ⟨w.heap.size,0,none⟩=some (.int .i64 a):=by simp
 have q1:(w.alloc (.cells #[.int .i64 a,.int .i64 k] 47)).cell? ⟨w.heap.size,1,none⟩=some (.int .i64 k):=by simp
 have Bo:w.heap.size<(w.alloc (.cells #[.int .i64 a,.int .i64 k] 47)).heap.size:=by simp
 go_enter Tryz.func151,Tryz.ntmps151;go_wp2;generalize w.alloc (.cells #[.int .i64 a,.int .i64 k] 47)=W at *;have HB:=qaa hB;have HD:Hid (Below W.heap.size W W.drew):=(Below.refl _ _).drew;clear hB;have fin:∀(b:Bool) (w2:World),decide (Pfx a k)=b→Below W.heap.size W w2→Ending.returned (.bool b)=.returned (.bool (decide (Pfx a k)))∧Below w.heap.size w w2:=fun b w2 e x=>⟨by rw[e],bt HB.out x (Nat.le_refl _)⟩
 by_cases h1:0≤k
 ·have d1:decide (0≤k)=true:=decide_eq_true h1
  by_cases h2:k≤32
  ·have d2:decide (k≤32)=true:=decide_eq_true h2
   by_cases h3:0≤a
   ·have d3:decide (0≤a)=true:=decide_eq_true h3
    by_cases h4:a≤4294967295
    ·have d4:decide (a≤4294967295)=true:=decide_eq_true h4
     obtain⟨n,rfl⟩:∃n:Nat,a=n:=⟨a.toNat,by omega⟩;obtain⟨b,rfl⟩:∃b:Nat,k=b:=⟨k.toNat,by omega⟩;have hz:=fun w=>qqm b (by omega) w
     have hp:decide (Pfx (n:Int) (b:Int))=(((n%2^(32-b):Nat):Int)==0):=by
      rw[Bool.eq_iff_iff,decide_eq_true_iff,beq_iff_eq];exact⟨fun h=>by have:=h.2.2.2.2;simp only[Int.toNat_natCast] at this;rw[this];rfl,fun h=>⟨h1,h2,h3,h4,by simp only[Int.toNat_natCast];exact Int.ofNat_inj.1 h⟩⟩
     have hpos:0<2^(32-b):=Nat.pow_pos (by decide);generalize 2^(32-b)=S at *;have hm:(n:Int).tmod S=((n%S:Nat):Int):=by rw[Int.tmod_eq_emod_of_nonneg (by omega)];omega
     have hS:¬S=0:=by omega
     have hF:=fun w2=>fin _ w2 hp
     clear fin hp;generalize n%S=z at *;refine wp_region_quiet (C:=fun w'=>Below W.heap.size W w') (by kernel_rfl) (by kernel_rfl) HD.out ?_;refine QW.out (l:=_::_) ?_
     iterate 23 (refine QW.take (by rfl) ?_;apply Exists.intro;refine⟨fun w' hw'=>?_,?_⟩;(·(have g0:=(hw'.cell (p:=⟨w.heap.size,0,none⟩) Bo).trans q0;have g1:=(hw'.cell (p:=⟨w.heap.size,1,none⟩) Bo).trans q1;go_simp;first|done|((try simp only[d1,d2,d3,d4]);first|done|rfl)));try simp only[Act.put,List.setIfInBounds_toArray,List.set_cons_zero,List.set_cons_succ])
     iterate 1 (refine QW.take (by rfl) ?_;apply Exists.intro;refine⟨fun w' hw'=>?_,?_⟩;(·(have g0:=(hw'.cell (p:=⟨w.heap.size,0,none⟩) Bo).trans q0;have g1:=(hw'.cell (p:=⟨w.heap.size,1,none⟩) Bo).trans q1;go_simp;(refine(hz _).mono ?_;rintro e w2 ⟨rfl,rfl⟩;exact⟨rfl,hw'⟩)));try simp only[Act.put,List.setIfInBounds_toArray,List.set_cons_zero,List.set_cons_succ])
     iterate 4 (refine QW.take (by rfl) ?_;apply Exists.intro;refine⟨fun w' hw'=>?_,?_⟩;(·(have g0:=(hw'.cell (p:=⟨w.heap.size,0,none⟩) Bo).trans q0;have g1:=(hw'.cell (p:=⟨w.heap.size,1,none⟩) Bo).trans q1;go_simp;first|done|((try simp only[d1,d2,d3,d4]);first|done|rfl)));try simp only[Act.put,List.setIfInBounds_toArray,List.set_cons_zero,List.set_cons_succ])
     refine QW.nil ?_;intro w2 x2;have X2:=qaa x2;clear x2 q0 q1;go_wp2;go_ret;exact hF w2 X2.out
    ·have d4:decide (a≤4294967295)=false:=decide_eq_false h4
     have hp:decide (Pfx a k)=false:=decide_eq_false (fun h=>h4 h.2.2.2.1);have hF:=fun w2=>fin _ w2 hp
     clear fin hp;refine wp_region_quiet (C:=fun w'=>Below W.heap.size W w') (by kernel_rfl) (by kernel_rfl) HD.out ?_;refine QW.out (l:=_::_) ?_
     iterate 19 (refine QW.take (by rfl) ?_;apply Exists.intro;refine⟨fun w' hw'=>?_,?_⟩;(·(have g0:=(hw'.cell (p:=⟨w.heap.size,0,none⟩) Bo).trans q0;have g1:=(hw'.cell (p:=⟨w.heap.size,1,none⟩) Bo).trans q1;go_simp;first|done|((try simp only[d1,d2,d3,d4]);first|done|rfl)));try simp only[Act.put,List.setIfInBounds_toArray,List.set_cons_zero,List.set_cons_succ])
     iterate 7 (refine QW.skip (by rfl) ?_;try simp only[Act.put,List.setIfInBounds_toArray,List.set_cons_zero,List.set_cons_succ])
     iterate 2 (refine QW.take (by rfl) ?_;apply Exists.intro;refine⟨fun w' hw'=>?_,?_⟩;(·(have g0:=(hw'.cell (p:=⟨w.heap.size,0,none⟩) Bo).trans q0;have g1:=(hw'.cell (p:=⟨w.heap.size,1,none⟩) Bo).trans q1;go_simp;first|done|((try simp only[d1,d2,d3,d4]);first|done|rfl)));try simp only[Act.put,List.setIfInBounds_toArray,List.set_cons_zero,List.set_cons_succ])
     refine QW.nil ?_;intro w2 x2;have X2:=qaa x2;clear x2 q0 q1;go_wp2;go_ret;exact hF w2 X2.out
   ·have d3:decide (0≤a)=false:=decide_eq_false h3
    have hp:decide (Pfx a k)=false:=decide_eq_false (fun h=>h3 h.2.2.1);have hF:=fun w2=>fin _ w2 hp
    clear fin hp;refine wp_region_quiet (C:=fun w'=>Below W.heap.size W w') (by kernel_rfl) (by kernel_rfl) HD.out ?_;refine QW.out (l:=_::_) ?_
    iterate 14 (refine QW.take (by rfl) ?_;apply Exists.intro;refine⟨fun w' hw'=>?_,?_⟩;(·(have g0:=(hw'.cell (p:=⟨w.heap.size,0,none⟩) Bo).trans q0;have g1:=(hw'.cell (p:=⟨w.heap.size,1,none⟩) Bo).trans q1;go_simp;first|done|((try simp only[d1,d2,d3]);first|done|rfl)));try simp only[Act.put,List.setIfInBounds_toArray,List.set_cons_zero,List.set_cons_succ])
    iterate 3 (refine QW.skip (by rfl) ?_;try simp only[Act.put,List.setIfInBounds_toArray,List.set_cons_zero,List.set_cons_succ])
    iterate 2 (refine QW.take (by rfl) ?_;apply Exists.intro;refine⟨fun w' hw'=>?_,?_⟩;(·(have g0:=(hw'.cell (p:=⟨w.heap.size,0,none⟩) Bo).trans q0;have g1:=(hw'.cell (p:=⟨w.heap.size,1,none⟩) Bo).trans q1;go_simp;first|done|((try simp only[d1,d2,d3]);first|done|rfl)));try simp only[Act.put,List.setIfInBounds_toArray,List.set_cons_zero,List.set_cons_succ])
    iterate 7 (refine QW.skip (by rfl) ?_;try simp only[Act.put,List.setIfInBounds_toArray,List.set_cons_zero,List.set_cons_succ])
    iterate 2 (refine QW.take (by rfl) ?_;apply Exists.intro;refine⟨fun w' hw'=>?_,?_⟩;(·(have g0:=(hw'.cell (p:=⟨w.heap.size,0,none⟩) Bo).trans q0;have g1:=(hw'.cell (p:=⟨w.heap.size,1,none⟩) Bo).trans q1;go_simp;first|done|((try simp only[d1,d2,d3]);first|done|rfl)));try simp only[Act.put,List.setIfInBounds_toArray,List.set_cons_zero,List.set_cons_succ])
    refine QW.nil ?_;intro w2 x2;have X2:=qaa x2;clear x2 q0 q1;go_wp2;go_ret;exact hF w2 X2.out
  ·have d2:decide (k≤32)=false:=decide_eq_false h2
   have hp:decide (Pfx a k)=false:=decide_eq_false (fun h=>h2 h.2.1);have hF:=fun w2=>fin _ w2 hp
   clear fin hp;refine wp_region_quiet (C:=fun w'=>Below W.heap.size W w') (by kernel_rfl) (by kernel_rfl) HD.out ?_;refine QW.out (l:=_::_) ?_
   iterate 9 (refine QW.take (by rfl) ?_;apply Exists.intro;refine⟨fun w' hw'=>?_,?_⟩;(·(have g0:=(hw'.cell (p:=⟨w.heap.size,0,none⟩) Bo).trans q0;have g1:=(hw'.cell (p:=⟨w.heap.size,1,none⟩) Bo).trans q1;go_simp;first|done|((try simp only[d1,d2]);first|done|rfl)));try simp only[Act.put,List.setIfInBounds_toArray,List.set_cons_zero,List.set_cons_succ])
   iterate 3 (refine QW.skip (by rfl) ?_;try simp only[Act.put,List.setIfInBounds_toArray,List.set_cons_zero,List.set_cons_succ])
   iterate 2 (refine QW.take (by rfl) ?_;apply Exists.intro;refine⟨fun w' hw'=>?_,?_⟩;(·(have g0:=(hw'.cell (p:=⟨w.heap.size,0,none⟩) Bo).trans q0;have g1:=(hw'.cell (p:=⟨w.heap.size,1,none⟩) Bo).trans q1;go_simp;first|done|((try simp only[d1,d2]);first|done|rfl)));try simp only[Act.put,List.setIfInBounds_toArray,List.set_cons_zero,List.set_cons_succ])
   iterate 3 (refine QW.skip (by rfl) ?_;try simp only[Act.put,List.setIfInBounds_toArray,List.set_cons_zero,List.set_cons_succ])
   iterate 2 (refine QW.take (by rfl) ?_;apply Exists.intro;refine⟨fun w' hw'=>?_,?_⟩;(·(have g0:=(hw'.cell (p:=⟨w.heap.size,0,none⟩) Bo).trans q0;have g1:=(hw'.cell (p:=⟨w.heap.size,1,none⟩) Bo).trans q1;go_simp;first|done|((try simp only[d1,d2]);first|done|rfl)));try simp only[Act.put,List.setIfInBounds_toArray,List.set_cons_zero,List.set_cons_succ])
   iterate 7 (refine QW.skip (by rfl) ?_;try simp only[Act.put,List.setIfInBounds_toArray,List.set_cons_zero,List.set_cons_succ])
   iterate 2 (refine QW.take (by rfl) ?_;apply Exists.intro;refine⟨fun w' hw'=>?_,?_⟩;(·(have g0:=(hw'.cell (p:=⟨w.heap.size,0,none⟩) Bo).trans q0;have g1:=(hw'.cell (p:=⟨w.heap.size,1,none⟩) Bo).trans q1;go_simp;first|done|((try simp only[d1,d2]);first|done|rfl)));try simp only[Act.put,List.setIfInBounds_toArray,List.set_cons_zero,List.set_cons_succ])
   refine QW.nil ?_;intro w2 x2;have X2:=qaa x2;clear x2 q0 q1;go_wp2;go_ret;exact hF w2 X2.out
 ·have d1:decide (0≤k)=false:=decide_eq_false h1
  have hp:decide (Pfx a k)=false:=decide_eq_false (fun h=>h1 h.1);have hF:=fun w2=>fin _ w2 hp
  clear fin hp;refine wp_region_quiet (C:=fun w'=>Below W.heap.size W w') (by kernel_rfl) (by kernel_rfl) HD.out ?_;refine QW.out (l:=_::_) ?_
  iterate 4 (refine QW.take (by rfl) ?_;apply Exists.intro;refine⟨fun w' hw'=>?_,?_⟩;(·(have g0:=(hw'.cell (p:=⟨w.heap.size,0,none⟩) Bo).trans q0;have g1:=(hw'.cell (p:=⟨w.heap.size,1,none⟩) Bo).trans q1;go_simp;first|done|((try simp only[d1]);first|done|rfl)));try simp only[Act.put,List.setIfInBounds_toArray,List.set_cons_zero,List.set_cons_succ])
  iterate 3 (refine QW.skip (by rfl) ?_;try simp only[Act.put,List.setIfInBounds_toArray,List.set_cons_zero,List.set_cons_succ])
  iterate 2 (refine QW.take (by rfl) ?_;apply Exists.intro;refine⟨fun w' hw'=>?_,?_⟩;(·(have g0:=(hw'.cell (p:=⟨w.heap.size,0,none⟩) Bo).trans q0;have g1:=(hw'.cell (p:=⟨w.heap.size,1,none⟩) Bo).trans q1;go_simp;first|done|((try simp only[d1]);first|done|rfl)));try simp only[Act.put,List.setIfInBounds_toArray,List.set_cons_zero,List.set_cons_succ])
  iterate 3 (refine QW.skip (by rfl) ?_;try simp only[Act.put,List.setIfInBounds_toArray,List.set_cons_zero,List.set_cons_succ])
  iterate 2 (refine QW.take (by rfl) ?_;apply Exists.intro;refine⟨fun w' hw'=>?_,?_⟩;(·(have g0:=(hw'.cell (p:=⟨w.heap.size,0,none⟩) Bo).trans q0;have g1:=(hw'.cell (p:=⟨w.heap.size,1,none⟩) Bo).trans q1;go_simp;first|done|((try simp only[d1]);first|done|rfl)));try simp only[Act.put,List.setIfInBounds_toArray,List.set_cons_zero,List.set_cons_succ])
  iterate 3 (refine QW.skip (by rfl) ?_;try simp only[Act.put,List.setIfInBounds_toArray,List.set_cons_zero,List.set_cons_succ])
  iterate 2 (refine QW.take (by rfl) ?_;apply Exists.intro;refine⟨fun w' hw'=>?_,?_⟩;(·(have g0:=(hw'.cell (p:=⟨w.heap.size,0,none⟩) Bo).trans q0;have g1:=(hw'.cell (p:=⟨w.heap.size,1,none⟩) Bo).trans q1;go_simp;first|done|((try simp only[d1]);first|done|rfl)));try simp only[Act.put,List.setIfInBounds_toArray,List.set_cons_zero,List.set_cons_succ])
  iterate 7 (refine QW.skip (by rfl) ?_;try simp only[Act.put,List.setIfInBounds_toArray,List.set_cons_zero,List.set_cons_succ])
  iterate 2 (refine QW.take (by rfl) ?_;apply Exists.intro;refine⟨fun w' hw'=>?_,?_⟩;(·(have g0:=(hw'.cell (p:=⟨w.heap.size,0,none⟩) Bo).trans q0;have g1:=(hw'.cell (p:=⟨w.heap.size,1,none⟩) Bo).trans q1;go_simp;first|done|((try simp only[d1]);first|done|rfl)));try simp only[Act.put,List.setIfInBounds_toArray,List.set_cons_zero,List.set_cons_succ])
  refine QW.nil ?_;intro w2 x2;have X2:=qaa x2;clear x2 q0 q1;go_wp2;go_ret;exact hF w2 X2.out
theorem qff {w w':World} {b:Nat} {cs:Array Value} {T:TypeId} {fr:Nat×Nat} (x:Below w.heap.size w w') (h:w.heap[b]? =some (.cells cs T fr)):w'.heap[b]? =some (.cells cs T fr):=(x.block b (lt_of_block h)).trans h
theorem qgz {l:List UInt8} {m:Nat} (h:qbf l=some m):m<4294967296:=by
 unfold qbf at h;cases e1:qbg 46 l with
 |none=>rw[e1] at h;cases h
 |some x1=>
  obtain⟨p1,l1⟩:=x1;rw[e1,Option.bind_some] at h;cases e2:qbg 46 l1 with
  |none=>simp only[e2] at h;cases h
  |some x2=>
   obtain⟨p2,l2⟩:=x2;simp only[e2,Option.bind_some] at h;cases e3:qbg 46 l2 with
   |none=>simp only[e3] at h;cases h
   |some x3=>
    obtain⟨p3,l3⟩:=x3;simp only[e3,Option.bind_some] at h;cases r1:rn p1 255 with
    |none=>simp only[r1] at h;cases h
    |some a=>
     cases r2:rn p2 255 with
     |none=>simp only[r1,r2,Option.bind_some] at h;cases h
     |some b=>
      cases r3:rn p3 255 with
      |none=>simp only[r1,r2,r3,Option.bind_some] at h;cases h
      |some c=>
       cases r4:rn l3 255 with
       |none=>simp only[r1,r2,r3,r4,Option.bind_some] at h;cases h
       |some d=>
        simp only[r1,r2,r3,r4,Option.bind_some,Option.some.injEq] at h;have s1:=qey r1;have s2:=qey r2;have s3:=qey r3;have s4:=qey r4;subst h;exact qtv a b c d (by omega) (by omega) (by omega) (by omega)
theorem qs5 {l:List UInt8} (hl:l.length≤140737488351232) (h:rn l 32=none) (w:World):Calls Tryz.prog 150 #[.string ⟨l.toArray⟩,.int .i64 32] w fun e w'=>(∃x:Int,e=.returned (.tuple #[.int .i64 x,.bool false]))∧w'=w:=
 (qb2 l 32 (by decide) hl w).mono fun e w' ⟨⟨x,h1,_⟩,h2⟩=>⟨⟨x,by rw[h1,h];rfl⟩,h2⟩
theorem qot {l:List UInt8} {m:Nat} (hl:l.length≤140737488351232) (h:rn l 32=some m) (w:World):Calls Tryz.prog 150 #[.string ⟨l.toArray⟩,.int .i64 32] w fun e w'=>e=.returned (.tuple #[.int .i64 m,.bool true])∧w'=w:=
 (qb2 l 32 (by decide) hl w).mono fun e w' ⟨⟨x,h1,h3⟩,h2⟩=>⟨by rw[h1,h,h3 m h];rfl,h2⟩
theorem c47n {l:List UInt8} (h:qbg 47 l=none) (hl:l.length≤140737488351232) (w:World):Calls Tryz.prog 148 #[.string ⟨l.toArray⟩,.int .u8 47] w fun e w'=>e=.returned (.tuple #[.string ⟨l.toArray⟩,.string ⟨#[]⟩,.bool false])∧Below w.heap.size w w':=qgf h hl w
theorem c47s {l p r:List UInt8} (h:qbg 47 l=some (p,r)) (hl:l.length≤140737488351232) (w:World):Calls Tryz.prog 148 #[.string ⟨l.toArray⟩,.int .u8 47] w fun e w'=>e=.returned (.tuple #[.string ⟨p.toArray⟩,.string ⟨r.toArray⟩,.bool true])∧Below w.heap.size w w':=qge h hl w
theorem qk2 {l:List UInt8} (h:qdb l=none):qer l=0∧qes l=0∧qgi l=30:=by simp[qer,qes,qgi,h]
theorem qou {l:List UInt8} {n k:Nat} (h:qdb l=some (n,k)):qer l=n∧qes l=k∧qgi l=0:=by simp[qer,qes,qgi,h]
theorem qj0 (n k:Nat) (hn:n<4294967296) (hk:k≤32):Pfx (n:Int) (k:Int)↔n%2^(32-k)=0:=⟨fun h=>h.2.2.2.2,fun h=>⟨by omega,by omega,by omega,by omega,h⟩⟩
theorem rpp1 (l:List UInt8) (w:World)
 (hcut:∀w,Calls Tryz.prog 148 #[.string ⟨l.toArray⟩,.int .u8 47] w fun e w'=>e=.returned (.tuple #[.string ⟨l.toArray⟩,.string ⟨#[]⟩,.bool false])∧Below w.heap.size w w')
 (Br:∀w,Calls Tryz.prog 149 #[.string ⟨l.toArray⟩] w fun e w'=>e=.returned (.tuple #[.int .i64 0,.int .i64 30])∧Below w.heap.size w w')
 :Calls Tryz.prog 123 #[.string ⟨l.toArray⟩] w fun e w'=>e=.returned (.tuple #[.agg #[.int .i64 0,.int .i64 0],.int .i64 30])∧Below w.heap.size w w':=by
 have hB:Below w.heap.size w (w.alloc (.cells #[.int .i64 0,.int .i64 0] 47)):=al (Below.refl _ _) _;have hR:=heap_alloc_new w (.cells #[.int .i64 0,.int .i64 0] 47);have HB:=qaa hB;have HR:=qaa hR;clear hB hR;go_enter Tryz.func123,Tryz.ntmps123;go_wp2_with (first
  |(go_at_call 148;generalize w.alloc (.cells #[.int .i64 0,.int .i64 0] 47)=W at *;refine(hcut _).mono ?_;rintro e w1 ⟨rfl,x1⟩;have X1:=qaa (bt HB.out x1 (Nat.le_refl _));have B1:=qaa (qff x1 HR.out);clear x1 hcut)
  |(go_at_call 149;refine(Br _).mono ?_;rintro e w2 ⟨rfl,x2⟩;have X2:=qaa (bt X1.out x2 (Nat.le_refl _));have B2:=qaa (qff x2 B1.out);clear x2 Br;have B3:=qaa (qff (al (Below.refl _ w2) (.cells #[.int .i64 0,.int .i64 32] 47)) B2.out);have X3:=qaa (al X2.out (.cells #[.int .i64 0,.int .i64 32] 47));have P3:=qaa (heap_alloc_new w2 (.cells #[.int .i64 0,.int .i64 32] 47));obtain⟨c0,c1,f0,f1⟩:=qah B3.out;obtain⟨p0,p1,_,_⟩:=qah P3.out))
 have b9:=qcj B3.out (.int .i64 0) (.int .i64 0);have k9:Below w.heap.size w (((w2.alloc (.cells #[.int .i64 0,.int .i64 32] 47)).setCell ⟨w.heap.size,0,none⟩ (.int .i64 0)).setCell ⟨w.heap.size,1,none⟩ (.int .i64 0)):=(X3.out.setCell (Nat.le_refl _) _).setCell (Nat.le_refl _) _;generalize ((w2.alloc (.cells #[.int .i64 0,.int .i64 32] 47)).setCell ⟨w.heap.size,0,none⟩ (.int .i64 0)).setCell ⟨w.heap.size,1,none⟩ (.int .i64 0)=W9 at *;obtain⟨r0,r1,_,_⟩:=qah b9;refine bodyPost_ret (by simp[results,Tryz.results123,go_sem,r0,r1];try rfl) rfl ?_;exact⟨rfl,k9⟩
theorem rpp2 (l:List UInt8) (n:Int) (w:World)
 (hcut:∀w,Calls Tryz.prog 148 #[.string ⟨l.toArray⟩,.int .u8 47] w fun e w'=>e=.returned (.tuple #[.string ⟨l.toArray⟩,.string ⟨#[]⟩,.bool false])∧Below w.heap.size w w')
 (Br:∀w,Calls Tryz.prog 149 #[.string ⟨l.toArray⟩] w fun e w'=>e=.returned (.tuple #[.int .i64 n,.int .i64 0])∧Below w.heap.size w w')
 (hrt:∀w,Calls Tryz.prog 151 #[.agg #[.int .i64 n,.int .i64 32]] w fun e w'=>e=.returned (.bool true)∧Below w.heap.size w w')
 :Calls Tryz.prog 123 #[.string ⟨l.toArray⟩] w fun e w'=>e=.returned (.tuple #[.agg #[.int .i64 n,.int .i64 32],.int .i64 0])∧Below w.heap.size w w':=by
 have hB:Below w.heap.size w (w.alloc (.cells #[.int .i64 0,.int .i64 0] 47)):=al (Below.refl _ _) _;have hR:=heap_alloc_new w (.cells #[.int .i64 0,.int .i64 0] 47);have HB:=qaa hB;have HR:=qaa hR;clear hB hR;go_enter Tryz.func123,Tryz.ntmps123;go_wp2_with (first
  |(go_at_call 148;generalize w.alloc (.cells #[.int .i64 0,.int .i64 0] 47)=W at *;refine(hcut _).mono ?_;rintro e w1 ⟨rfl,x1⟩;have X1:=qaa (bt HB.out x1 (Nat.le_refl _));have B1:=qaa (qff x1 HR.out);clear x1 hcut)
  |(go_at_call 149;refine(Br _).mono ?_;rintro e w2 ⟨rfl,x2⟩;have X2:=qaa (bt X1.out x2 (Nat.le_refl _));have B2:=qaa (qff x2 B1.out);clear x2 Br;have B3:=qaa (qff (al (Below.refl _ w2) (.cells #[.int .i64 n,.int .i64 32] 47)) B2.out);have X3:=qaa (al X2.out (.cells #[.int .i64 n,.int .i64 32] 47));have P3:=qaa (heap_alloc_new w2 (.cells #[.int .i64 n,.int .i64 32] 47));obtain⟨c0,c1,f0,f1⟩:=qah B3.out;obtain⟨p0,p1,_,_⟩:=qah P3.out)
  |(go_at_call 151;generalize w2.alloc (.cells #[.int .i64 n,.int .i64 32] 47)=W3 at *;refine(hrt _).mono ?_;rintro e w4 ⟨rfl,x4⟩;have X4:=qaa (bt X3.out x4 (Nat.le_refl _));have B4:=qaa (qff x4 B3.out);have P4:=qaa (qff x4 P3.out);clear c0 c1 f0 f1 p0 p1;obtain⟨c0,c1,f0,f1⟩:=qah B4.out;obtain⟨p0,p1,_,_⟩:=qah P4.out;clear x4 hrt))
 have b9:=qcj B4.out (.int .i64 n) (.int .i64 32);have k9:Below w.heap.size w ((w4.setCell ⟨w.heap.size,0,none⟩ (.int .i64 n)).setCell ⟨w.heap.size,1,none⟩ (.int .i64 32)):=(X4.out.setCell (Nat.le_refl _) _).setCell (Nat.le_refl _) _;generalize (w4.setCell ⟨w.heap.size,0,none⟩ (.int .i64 n)).setCell ⟨w.heap.size,1,none⟩ (.int .i64 32)=W9 at *;obtain⟨r0,r1,_,_⟩:=qah b9;refine bodyPost_ret (by simp[results,Tryz.results123,go_sem,r0,r1];try rfl) rfl ?_;exact⟨rfl,k9⟩
theorem rpp3 (l p r:List UInt8) (w:World)
 (hcut:∀w,Calls Tryz.prog 148 #[.string ⟨l.toArray⟩,.int .u8 47] w fun e w'=>e=.returned (.tuple #[.string ⟨p.toArray⟩,.string ⟨r.toArray⟩,.bool true])∧Below w.heap.size w w')
 (Br:∀w,Calls Tryz.prog 149 #[.string ⟨p.toArray⟩] w fun e w'=>e=.returned (.tuple #[.int .i64 0,.int .i64 30])∧Below w.heap.size w w')
 (Dz:∀w,Calls Tryz.prog 150 #[.string ⟨r.toArray⟩,.int .i64 32] w fun e w'=>(∃(x:Int) (b:Bool),e=.returned (.tuple #[.int .i64 x,.bool b]))∧w'=w)
 :Calls Tryz.prog 123 #[.string ⟨l.toArray⟩] w fun e w'=>e=.returned (.tuple #[.agg #[.int .i64 0,.int .i64 0],.int .i64 30])∧Below w.heap.size w w':=by
 have hB:Below w.heap.size w (w.alloc (.cells #[.int .i64 0,.int .i64 0] 47)):=al (Below.refl _ _) _;have hR:=heap_alloc_new w (.cells #[.int .i64 0,.int .i64 0] 47);have HB:=qaa hB;have HR:=qaa hR;clear hB hR;go_enter Tryz.func123,Tryz.ntmps123;go_wp2_with (first
  |(go_at_call 148;generalize w.alloc (.cells #[.int .i64 0,.int .i64 0] 47)=W at *;refine(hcut _).mono ?_;rintro e w1 ⟨rfl,x1⟩;have X1:=qaa (bt HB.out x1 (Nat.le_refl _));have B1:=qaa (qff x1 HR.out);clear x1 hcut)
  |(go_at_call 149;refine(Br _).mono ?_;rintro e w2 ⟨rfl,x2⟩;have X2:=qaa (bt X1.out x2 (Nat.le_refl _));have B2:=qaa (qff x2 B1.out);clear x2 Br)
  |(go_at_call 150;refine(Dz _).mono ?_;rintro e w9 ⟨⟨x,b,rfl⟩,ER⟩;subst ER;have B3:=qaa (qff (al (Below.refl _ w9) (.cells #[.int .i64 0,.int .i64 x] 47)) B2.out);have X3:=qaa (al X2.out (.cells #[.int .i64 0,.int .i64 x] 47));have P3:=qaa (heap_alloc_new w9 (.cells #[.int .i64 0,.int .i64 x] 47));obtain⟨c0,c1,f0,f1⟩:=qah B3.out;obtain⟨p0,p1,_,_⟩:=qah P3.out;clear Dz))
 have b9:=qcj B3.out (.int .i64 0) (.int .i64 0);have k9:Below w.heap.size w (((w9.alloc (.cells #[.int .i64 0,.int .i64 x] 47)).setCell ⟨w.heap.size,0,none⟩ (.int .i64 0)).setCell ⟨w.heap.size,1,none⟩ (.int .i64 0)):=(X3.out.setCell (Nat.le_refl _) _).setCell (Nat.le_refl _) _;generalize ((w9.alloc (.cells #[.int .i64 0,.int .i64 x] 47)).setCell ⟨w.heap.size,0,none⟩ (.int .i64 0)).setCell ⟨w.heap.size,1,none⟩ (.int .i64 0)=W9 at *;obtain⟨r0,r1,_,_⟩:=qah b9;refine bodyPost_ret (by simp[results,Tryz.results123,go_sem,r0,r1];try rfl) rfl ?_;exact⟨rfl,k9⟩
theorem rpp4 (l p r:List UInt8) (n:Int) (w:World)
 (hcut:∀w,Calls Tryz.prog 148 #[.string ⟨l.toArray⟩,.int .u8 47] w fun e w'=>e=.returned (.tuple #[.string ⟨p.toArray⟩,.string ⟨r.toArray⟩,.bool true])∧Below w.heap.size w w')
 (Br:∀w,Calls Tryz.prog 149 #[.string ⟨p.toArray⟩] w fun e w'=>e=.returned (.tuple #[.int .i64 n,.int .i64 0])∧Below w.heap.size w w')
 (Dz:∀w,Calls Tryz.prog 150 #[.string ⟨r.toArray⟩,.int .i64 32] w fun e w'=>(∃x:Int,e=.returned (.tuple #[.int .i64 x,.bool false]))∧w'=w)
 :Calls Tryz.prog 123 #[.string ⟨l.toArray⟩] w fun e w'=>e=.returned (.tuple #[.agg #[.int .i64 0,.int .i64 0],.int .i64 30])∧Below w.heap.size w w':=by
 have hB:Below w.heap.size w (w.alloc (.cells #[.int .i64 0,.int .i64 0] 47)):=al (Below.refl _ _) _;have hR:=heap_alloc_new w (.cells #[.int .i64 0,.int .i64 0] 47);have HB:=qaa hB;have HR:=qaa hR;clear hB hR;go_enter Tryz.func123,Tryz.ntmps123;go_wp2_with (first
  |(go_at_call 148;generalize w.alloc (.cells #[.int .i64 0,.int .i64 0] 47)=W at *;refine(hcut _).mono ?_;rintro e w1 ⟨rfl,x1⟩;have X1:=qaa (bt HB.out x1 (Nat.le_refl _));have B1:=qaa (qff x1 HR.out);clear x1 hcut)
  |(go_at_call 149;refine(Br _).mono ?_;rintro e w2 ⟨rfl,x2⟩;have X2:=qaa (bt X1.out x2 (Nat.le_refl _));have B2:=qaa (qff x2 B1.out);clear x2 Br)
  |(go_at_call 150;refine(Dz _).mono ?_;rintro e w9 ⟨⟨x,rfl⟩,ER⟩;subst ER;have B3:=qaa (qff (al (Below.refl _ w9) (.cells #[.int .i64 n,.int .i64 x] 47)) B2.out);have X3:=qaa (al X2.out (.cells #[.int .i64 n,.int .i64 x] 47));have P3:=qaa (heap_alloc_new w9 (.cells #[.int .i64 n,.int .i64 x] 47));obtain⟨c0,c1,f0,f1⟩:=qah B3.out;obtain⟨p0,p1,_,_⟩:=qah P3.out;clear Dz))
 have b9:=qcj B3.out (.int .i64 0) (.int .i64 0);have k9:Below w.heap.size w (((w9.alloc (.cells #[.int .i64 n,.int .i64 x] 47)).setCell ⟨w.heap.size,0,none⟩ (.int .i64 0)).setCell ⟨w.heap.size,1,none⟩ (.int .i64 0)):=(X3.out.setCell (Nat.le_refl _) _).setCell (Nat.le_refl _) _;generalize ((w9.alloc (.cells #[.int .i64 n,.int .i64 x] 47)).setCell ⟨w.heap.size,0,none⟩ (.int .i64 0)).setCell ⟨w.heap.size,1,none⟩ (.int .i64 0)=W9 at *;obtain⟨r0,r1,_,_⟩:=qah b9;refine bodyPost_ret (by simp[results,Tryz.results123,go_sem,r0,r1];try rfl) rfl ?_;exact⟨rfl,k9⟩
theorem rpp5 (l p r:List UInt8) (n k:Int) (w:World)
 (hcut:∀w,Calls Tryz.prog 148 #[.string ⟨l.toArray⟩,.int .u8 47] w fun e w'=>e=.returned (.tuple #[.string ⟨p.toArray⟩,.string ⟨r.toArray⟩,.bool true])∧Below w.heap.size w w')
 (Br:∀w,Calls Tryz.prog 149 #[.string ⟨p.toArray⟩] w fun e w'=>e=.returned (.tuple #[.int .i64 n,.int .i64 0])∧Below w.heap.size w w')
 (Dz:∀w,Calls Tryz.prog 150 #[.string ⟨r.toArray⟩,.int .i64 32] w fun e w'=>e=.returned (.tuple #[.int .i64 k,.bool true])∧w'=w)
 (hrt:∀w,Calls Tryz.prog 151 #[.agg #[.int .i64 n,.int .i64 k]] w fun e w'=>e=.returned (.bool true)∧Below w.heap.size w w')
 :Calls Tryz.prog 123 #[.string ⟨l.toArray⟩] w fun e w'=>e=.returned (.tuple #[.agg #[.int .i64 n,.int .i64 k],.int .i64 0])∧Below w.heap.size w w':=by
 have hB:Below w.heap.size w (w.alloc (.cells #[.int .i64 0,.int .i64 0] 47)):=al (Below.refl _ _) _;have hR:=heap_alloc_new w (.cells #[.int .i64 0,.int .i64 0] 47);have HB:=qaa hB;have HR:=qaa hR;clear hB hR;go_enter Tryz.func123,Tryz.ntmps123;go_wp2_with (first
  |(go_at_call 148;generalize w.alloc (.cells #[.int .i64 0,.int .i64 0] 47)=W at *;refine(hcut _).mono ?_;rintro e w1 ⟨rfl,x1⟩;have X1:=qaa (bt HB.out x1 (Nat.le_refl _));have B1:=qaa (qff x1 HR.out);clear x1 hcut)
  |(go_at_call 149;refine(Br _).mono ?_;rintro e w2 ⟨rfl,x2⟩;have X2:=qaa (bt X1.out x2 (Nat.le_refl _));have B2:=qaa (qff x2 B1.out);clear x2 Br)
  |(go_at_call 150;refine(Dz _).mono ?_;rintro e w9 ⟨rfl,ER⟩;subst ER;have B3:=qaa (qff (al (Below.refl _ w9) (.cells #[.int .i64 n,.int .i64 k] 47)) B2.out);have X3:=qaa (al X2.out (.cells #[.int .i64 n,.int .i64 k] 47));have P3:=qaa (heap_alloc_new w9 (.cells #[.int .i64 n,.int .i64 k] 47));obtain⟨c0,c1,f0,f1⟩:=qah B3.out;obtain⟨p0,p1,_,_⟩:=qah P3.out;clear Dz)
  |(go_at_call 151;generalize w9.alloc (.cells #[.int .i64 n,.int .i64 k] 47)=W3 at *;refine(hrt _).mono ?_;rintro e w4 ⟨rfl,x4⟩;have X4:=qaa (bt X3.out x4 (Nat.le_refl _));have B4:=qaa (qff x4 B3.out);have P4:=qaa (qff x4 P3.out);clear c0 c1 f0 f1 p0 p1;obtain⟨c0,c1,f0,f1⟩:=qah B4.out;obtain⟨p0,p1,_,_⟩:=qah P4.out;clear x4 hrt))
 have b9:=qcj B4.out (.int .i64 n) (.int .i64 k);have k9:Below w.heap.size w ((w4.setCell ⟨w.heap.size,0,none⟩ (.int .i64 n)).setCell ⟨w.heap.size,1,none⟩ (.int .i64 k)):=(X4.out.setCell (Nat.le_refl _) _).setCell (Nat.le_refl _) _;generalize (w4.setCell ⟨w.heap.size,0,none⟩ (.int .i64 n)).setCell ⟨w.heap.size,1,none⟩ (.int .i64 k)=W9 at *;obtain⟨r0,r1,_,_⟩:=qah b9;refine bodyPost_ret (by simp[results,Tryz.results123,go_sem,r0,r1];try rfl) rfl ?_;exact⟨rfl,k9⟩
theorem rpp6 (l p r:List UInt8) (n k:Int) (w:World)
 (hcut:∀w,Calls Tryz.prog 148 #[.string ⟨l.toArray⟩,.int .u8 47] w fun e w'=>e=.returned (.tuple #[.string ⟨p.toArray⟩,.string ⟨r.toArray⟩,.bool true])∧Below w.heap.size w w')
 (Br:∀w,Calls Tryz.prog 149 #[.string ⟨p.toArray⟩] w fun e w'=>e=.returned (.tuple #[.int .i64 n,.int .i64 0])∧Below w.heap.size w w')
 (Dz:∀w,Calls Tryz.prog 150 #[.string ⟨r.toArray⟩,.int .i64 32] w fun e w'=>e=.returned (.tuple #[.int .i64 k,.bool true])∧w'=w)
 (hrt:∀w,Calls Tryz.prog 151 #[.agg #[.int .i64 n,.int .i64 k]] w fun e w'=>e=.returned (.bool false)∧Below w.heap.size w w')
 :Calls Tryz.prog 123 #[.string ⟨l.toArray⟩] w fun e w'=>e=.returned (.tuple #[.agg #[.int .i64 0,.int .i64 0],.int .i64 30])∧Below w.heap.size w w':=by
 have hB:Below w.heap.size w (w.alloc (.cells #[.int .i64 0,.int .i64 0] 47)):=al (Below.refl _ _) _;have hR:=heap_alloc_new w (.cells #[.int .i64 0,.int .i64 0] 47);have HB:=qaa hB;have HR:=qaa hR;clear hB hR;go_enter Tryz.func123,Tryz.ntmps123;go_wp2_with (first
  |(go_at_call 148;generalize w.alloc (.cells #[.int .i64 0,.int .i64 0] 47)=W at *;refine(hcut _).mono ?_;rintro e w1 ⟨rfl,x1⟩;have X1:=qaa (bt HB.out x1 (Nat.le_refl _));have B1:=qaa (qff x1 HR.out);clear x1 hcut)
  |(go_at_call 149;refine(Br _).mono ?_;rintro e w2 ⟨rfl,x2⟩;have X2:=qaa (bt X1.out x2 (Nat.le_refl _));have B2:=qaa (qff x2 B1.out);clear x2 Br)
  |(go_at_call 150;refine(Dz _).mono ?_;rintro e w9 ⟨rfl,ER⟩;subst ER;have B3:=qaa (qff (al (Below.refl _ w9) (.cells #[.int .i64 n,.int .i64 k] 47)) B2.out);have X3:=qaa (al X2.out (.cells #[.int .i64 n,.int .i64 k] 47));have P3:=qaa (heap_alloc_new w9 (.cells #[.int .i64 n,.int .i64 k] 47));obtain⟨c0,c1,f0,f1⟩:=qah B3.out;obtain⟨p0,p1,_,_⟩:=qah P3.out;clear Dz)
  |(go_at_call 151;generalize w9.alloc (.cells #[.int .i64 n,.int .i64 k] 47)=W3 at *;refine(hrt _).mono ?_;rintro e w4 ⟨rfl,x4⟩;have X4:=qaa (bt X3.out x4 (Nat.le_refl _));have B4:=qaa (qff x4 B3.out);have P4:=qaa (qff x4 P3.out);clear c0 c1 f0 f1 p0 p1;obtain⟨c0,c1,f0,f1⟩:=qah B4.out;obtain⟨p0,p1,_,_⟩:=qah P4.out;clear x4 hrt))
 have b9:=qcj B4.out (.int .i64 0) (.int .i64 0);have k9:Below w.heap.size w ((w4.setCell ⟨w.heap.size,0,none⟩ (.int .i64 0)).setCell ⟨w.heap.size,1,none⟩ (.int .i64 0)):=(X4.out.setCell (Nat.le_refl _) _).setCell (Nat.le_refl _) _;generalize (w4.setCell ⟨w.heap.size,0,none⟩ (.int .i64 0)).setCell ⟨w.heap.size,1,none⟩ (.int .i64 0)=W9 at *;obtain⟨r0,r1,_,_⟩:=qah b9;refine bodyPost_ret (by simp[results,Tryz.results123,go_sem,r0,r1];try rfl) rfl ?_;exact⟨rfl,k9⟩
theorem qeo (l:List UInt8) (hl:l.length≤140737488351232) (w:World):Calls Tryz.prog 123 #[.string ⟨l.toArray⟩] w fun e w'=>e=.returned (.tuple #[.agg #[.int .i64 (qer l),.int .i64 (qes l)],.int .i64 (qgi l)])∧Below w.heap.size w w':=by
 rcases qen 47 l with ec|⟨p,r,ec⟩
 ·have hcut:=fun w=>c47n ec hl w
  have Br:=fun w=>qe6 l hl w
  cases ea:qbf l with
  |none=>
   have e0:qdb l=none:=by simp[qdb,ec,ea]
   obtain⟨e1,e2,e3⟩:=qk2 e0;rw[e1,e2,e3];rw[(qgy ea).1,(qgy ea).2] at Br;exact rpp1 l w hcut Br
  |some n=>
   have hn:=qgz ea;have e0:qdb l=some (n,32):=by simp[qdb,ec,ea]
   obtain⟨e1,e2,e3⟩:=qou e0;rw[e1,e2,e3];rw[(qe2 ea).1,(qe2 ea).2] at Br;refine rpp2 l n w hcut Br (fun w=>?_);have:=qe7 (n:Int) (32:Nat) w;rw[decide_eq_true ((qj0 n 32 hn (by decide)).2 (by simp[Nat.mod_one]))] at this;exact this
 ·have hcut:=fun w=>c47s ec hl w
  have hcl:=qa2 ec;have Br:=fun w=>qe6 p (by omega) w
  cases ea:qbf p with
  |none=>
   have e0:qdb l=none:=by simp[qdb,ec,ea]
   obtain⟨e1,e2,e3⟩:=qk2 e0;rw[e1,e2,e3];rw[(qgy ea).1,(qgy ea).2] at Br;exact rpp3 l p r w hcut Br (fun w=>(qb2 r 32 (by decide) (by omega) w).mono fun e w' ⟨⟨x,h1,_⟩,h2⟩=>⟨⟨x,_,h1⟩,h2⟩)
  |some n=>
   have hn:=qgz ea;rw[(qe2 ea).1,(qe2 ea).2] at Br;rcases qem r 32 with er|⟨k,er⟩
   ·have e0:qdb l=none:=by simp[qdb,ec,ea,er]
    obtain⟨e1,e2,e3⟩:=qk2 e0;rw[e1,e2,e3];exact rpp4 l p r n w hcut Br (fun w=>qs5 (by omega) er w)
   ·have hk:=qgh er
    have hrt:=fun w=>qe7 (n:Int) (k:Int) w
    by_cases hm:n%2^(32-k)=0
    ·have e0:qdb l=some (n,k):=by simp[qdb,ec,ea,er,hm]
     obtain⟨e1,e2,e3⟩:=qou e0;rw[e1,e2,e3];rw[decide_eq_true ((qj0 n k hn hk).2 hm)] at hrt;exact rpp5 l p r n k w hcut Br (fun w=>qot (by omega) er w) hrt
    ·have e0:qdb l=none:=by simp[qdb,ec,ea,er,hm]
     obtain⟨e1,e2,e3⟩:=qk2 e0;rw[e1,e2,e3];rw[decide_eq_false (fun h=>hm ((qj0 n k hn hk).1 h))] at hrt;exact rpp6 l p r n k w hcut Br (fun w=>qot (by omega) er w) hrt
def qep (run:By):Option Tk:=match qdy run with
 |some u=>some ⟨4,[],u,0,0,0⟩
 |none=>if 46∈run∨47∈run then(qdb run).map fun p=>⟨5,[],0,p.1,p.2,0⟩ else none
def NbD (run:By) (e:Ending):Prop:=∃y:Tk,e=.returned (.tuple #[.agg (tkV y),.bool (qep run).isSome])∧∀z,qep run=some z→y=z
theorem qiu (run:By) (hs:run≠[]) (hl:run.length≤140737488351232) (u:Nat) (hu:qdy run=some u) (w:World):Calls Tryz.prog 83 #[.string ⟨run.toArray⟩] w fun e w'=>NbD run e∧Below w.heap.size w w':=by
 have HN:Hid (∀W,Calls Tryz.prog 122 #[.string ⟨run.toArray⟩] W fun e w'=>e=.returned (.tuple #[.int .i64 u,.bool true])∧w'=W):=fun W=>by
  refine(qgw run hs hl W).mono ?_;rintro e w' ⟨⟨x,rfl,h2⟩,rfl⟩;rw[hu] at h2 ⊢;rw[h2 u rfl];exact⟨rfl,rfl⟩
 have HR:Hid (qep run=some ⟨4,[],u,0,0,0⟩):=by unfold Hid qep;rw[hu]
 clear hu;go_enter Tryz.func83,Tryz.ntmps83;go_wp2_with (go_at_call 122;refine(HN.out _).mono ?_;rintro e w1 ⟨rfl,hw1⟩;have hw1:=hw1.symm;subst hw1);obtain⟨r0,r1,r2,r3,r4,r5⟩:=qdr (Yh w (.cells #[.int .i64 4,.string ⟨#[]⟩,.int .i64 (u:Int),.int .i64 0,.int .i64 0,.int .i64 0] 49));refine Yg (by simp[results,Tryz.results83,go_sem,r0,r1,r2,r3,r4,r5];try rfl) rfl ?_;exact⟨⟨⟨4,[],u,0,0,0⟩,by rw[HR.out];rfl,fun z hz=>by rw[HR.out] at hz;exact Option.some.inj hz⟩,al Yj _⟩
theorem qiv (run:By) (hs:run≠[]) (hl:run.length≤140737488351232) (hu:qdy run=none) (w:World):Calls Tryz.prog 83 #[.string ⟨run.toArray⟩] w fun e w'=>NbD run e∧Below w.heap.size w w':=by
 have hsz:=qa5 run;have HN:Hid (∀W,Calls Tryz.prog 122 #[.string ⟨run.toArray⟩] W fun e w'=>(∃x:Int,e=.returned (.tuple #[.int .i64 x,.bool false]))∧w'=W):=fun W=>by
  refine(qgw run hs hl W).mono ?_;rintro e w' ⟨⟨x,rfl,h2⟩,rfl⟩;rw[hu];exact⟨⟨x,rfl⟩,rfl⟩
 have HR:Hid (qep run=if 46∈run∨47∈run then(qdb run).map fun p=>⟨5,[],0,p.1,p.2,0⟩ else none):=by unfold Hid qep;rw[hu]
 clear hu;obtain⟨W,hW⟩:∃W,W=w.alloc (.cells #[.int .i64 0,.string ⟨#[]⟩,.int .i64 0,.int .i64 0,.int .i64 0,.int .i64 0] 49):=⟨_,rfl⟩;have HB:=qaa (show Below w.heap.size w W by rw[hW];exact al Yj _);have HK:=qaa (show W.heap[w.heap.size]? =some (.cells #[.int .i64 0,.string ⟨#[]⟩,.int .i64 0,.int .i64 0,.int .i64 0,.int .i64 0] 49 (0,0)) by rw[hW];exact Yh w _);go_enter Tryz.func83,Tryz.ntmps83;go_upto_region 1 with fail
 rw[←hW];clear hW;go_wp2_with (go_at_call 122;refine(HN.out _).mono ?_;rintro e w1 ⟨⟨x,rfl⟩,hw1⟩;have hw1:=hw1.symm;subst hw1);have HP:=qaa (fun V=>qeo run hl V);go_loopg [6] (run.length+1) (fun g y wr=>∃i:Nat,y=.int .i64 (i:Nat)∧i≤run.length∧Hid (46∉run.take i∧47∉run.take i)∧wr=W∧run.length-i<g)
 case atStart=>exact⟨0,rfl,by omega,⟨by simp,by simp⟩,rfl,by omega⟩
 case round=>
  obtain⟨i,rfl,hi1,HI,hw,hg⟩:=hrel;have hw:=hw.symm;subst hw;have HG:=qaa hg;clear hg;by_cases hi:i<run.length
  ·have hi':(i:Int)<(run.length:Int):=by omega
   obtain⟨b,hb⟩:∃b:UInt8,run[i]=b:=⟨_,rfl⟩;have hix:∀hk,(⟨run.toArray⟩:ByteArray)[i]'hk=b:=fun hk=>(qcz run i hk).trans hb
   have hmem:b∈run:=hb▸List.getElem_mem hi;by_cases hc:b=46∨b=47
   ·have PE:Hid (46∈run∨47∈run):=by
     rcases hc with rfl|rfl
     ·exact .inl hmem
     ·exact .inr hmem
    have HR2:=qaa (HR.out);rw[if_pos PE.out] at HR2;have hbb:(b.toNat:Int)=46∨(¬(b.toNat:Int)=46∧(b.toNat:Int)=47):=by
     rcases hc with rfl|rfl
     ·exact .inl rfl
     ·exact .inr ⟨by decide,rfl⟩
    clear hc hmem hb;rcases hbb with hbb|⟨hnb,hbb⟩
    all_goals
     go_wp2_with (go_at_call 123;refine(HP.out _).mono ?_;rintro e w2 ⟨rfl,x2⟩;have X2:=qaa x2;have Db:=qaa (((al x2 (.cells #[.int .i64 (qer run),.int .i64 (qes run)] 47)).block _ (Yd HK.out)).trans HK.out);have X3:=qaa (al (bt HB.out x2 Yi) (.cells #[.int .i64 (qer run),.int .i64 (qes run)] 47));obtain⟨c0,c1,c2,c3,c4,c5⟩:=qdr Db.out;have f0:=Yf _ _ 0 _ _ Db.out;have f1:=Yf _ _ 1 _ _ Db.out;have f2:=Yf _ _ 2 _ _ Db.out;have f3:=Yf _ _ 3 _ _ Db.out;have f4:=Yf _ _ 4 _ _ Db.out;have f5:=Yf _ _ 5 _ _ Db.out;clear x2);have K9:=qjp Db.out (.int .i64 5) (.string ⟨#[]⟩) (.int .i64 0) (.int .i64 (qer run)) (.int .i64 (qes run)) (.int .i64 0);have B9:=(((((X3.out.setCell (p:=⟨w.heap.size,0,none⟩) Yi (.int .i64 5)).setCell (p:=⟨w.heap.size,1,none⟩) Yi (.string ⟨#[]⟩)).setCell (p:=⟨w.heap.size,2,none⟩) Yi (.int .i64 0)).setCell (p:=⟨w.heap.size,3,none⟩) Yi (.int .i64 (qer run))).setCell (p:=⟨w.heap.size,4,none⟩) Yi (.int .i64 (qes run))).setCell (p:=⟨w.heap.size,5,none⟩) Yi (.int .i64 0);clear c0 c1 c2 c3 c4 c5 f0 f1 f2 f3 f4 f5;generalize (((((((w2.alloc (.cells #[.int .i64 (qer run),.int .i64 (qes run)] 47)).setCell ⟨w.heap.size,0,none⟩ (.int .i64 5)).setCell ⟨w.heap.size,1,none⟩ (.string ⟨#[]⟩)).setCell ⟨w.heap.size,2,none⟩ (.int .i64 0)).setCell ⟨w.heap.size,3,none⟩ (.int .i64 (qer run))).setCell ⟨w.heap.size,4,none⟩ (.int .i64 (qes run))).setCell ⟨w.heap.size,5,none⟩ (.int .i64 0))=W9 at *;obtain⟨r0,r1,r2,r3,r4,r5⟩:=qdr K9;refine Yg (by simp[results,Tryz.results83,go_sem,r0,r1,r2,r3,r4,r5];try rfl) rfl ?_;refine⟨⟨⟨5,[],0,qer run,qes run,0⟩,?_,fun z hz=>?_⟩,B9⟩
     ·rw[HR2.out]
      unfold qgi;cases qdb run with
      |none=>rfl
      |some p=>rfl
     ·rw[HR2.out] at hz
      unfold qer qes;cases hp:qdb run with
      |none=>rw[hp] at hz;cases hz
      |some p=>rw[hp] at hz;exact Option.some.inj hz
   ·have Nc:¬(b.toNat:Int)=46:=fun e=>hc (.inl (UInt8.toNat_inj.1 (by show b.toNat=46;omega)))
    have hn47:¬(b.toNat:Int)=47:=fun e=>hc (.inr (UInt8.toNat_inj.1 (by show b.toNat=47;omega)))
    have HI2:Hid (46∉run.take (i+1)∧47∉run.take (i+1)):=by
     unfold Hid;rw[List.take_add_one,List.getElem?_eq_getElem hi,hb];have h1:¬(46=b):=fun e=>hc (.inl e.symm)
     have h2:¬(47=b):=fun e=>hc (.inr e.symm)
     simp[HI.out.1,HI.out.2,h1,h2]
    have f3:IntKind.i64.wrap ((i:Int)+1)=(i:Int)+1:=by rw[show(i:Int)+1=((i+1:Nat):Int) by simp];simp[IntKind.wrap,IntKind.bits,IntKind.signed];omega
    have b46:((b.toNat:Int)==46)=false:=by simpa using Nc
    have b47:((b.toNat:Int)==47)=false:=by simpa using hn47
    clear hc hmem hb;go_wp2;go_roundg (run.length-(i+1)+1)
    case measure=>have:=HG.out;omega
    case rel=>exact⟨i+1,by simp,by omega,HI2,rfl,by omega⟩
  ·obtain rfl:i=run.length:=by omega
   have Jh:Hid (qep run=none):=by
    unfold Hid;have:=HI.out;rw[List.take_length] at this;rw[HR.out,if_neg (by rintro(h|h);exact this.1 h;exact this.2 h)]
   obtain⟨c0,c1,c2,c3,c4,c5⟩:=qdr HK.out;have f0:=Yf _ _ 0 _ _ HK.out;have f1:=Yf _ _ 1 _ _ HK.out;have f2:=Yf _ _ 2 _ _ HK.out;have f3:=Yf _ _ 3 _ _ HK.out;have f4:=Yf _ _ 4 _ _ HK.out;have f5:=Yf _ _ 5 _ _ HK.out;go_wp2;have K9:=qjp HK.out (.int .i64 0) (.string ⟨#[]⟩) (.int .i64 0) (.int .i64 0) (.int .i64 0) (.int .i64 0);have B9:=(((((HB.out.setCell (p:=⟨w.heap.size,0,none⟩) Yi (.int .i64 0)).setCell (p:=⟨w.heap.size,1,none⟩) Yi (.string ⟨#[]⟩)).setCell (p:=⟨w.heap.size,2,none⟩) Yi (.int .i64 0)).setCell (p:=⟨w.heap.size,3,none⟩) Yi (.int .i64 0)).setCell (p:=⟨w.heap.size,4,none⟩) Yi (.int .i64 0)).setCell (p:=⟨w.heap.size,5,none⟩) Yi (.int .i64 0);clear c0 c1 c2 c3 c4 c5 f0 f1 f2 f3 f4 f5;generalize ((((((W.setCell ⟨w.heap.size,0,none⟩ (.int .i64 0)).setCell ⟨w.heap.size,1,none⟩ (.string ⟨#[]⟩)).setCell ⟨w.heap.size,2,none⟩ (.int .i64 0)).setCell ⟨w.heap.size,3,none⟩ (.int .i64 0)).setCell ⟨w.heap.size,4,none⟩ (.int .i64 0)).setCell ⟨w.heap.size,5,none⟩ (.int .i64 0))=W9 at *;obtain⟨r0,r1,r2,r3,r4,r5⟩:=qdr K9;refine Yg (by simp[results,Tryz.results83,go_sem,r0,r1,r2,r3,r4,r5];try rfl) rfl ?_;exact⟨⟨⟨0,[],0,0,0,0⟩,by rw[Jh.out];rfl,fun z hz=>by rw[Jh.out] at hz;cases hz⟩,B9⟩
theorem qiw (run:By) (hs:run≠[]) (hl:run.length≤140737488351232) (w:World):Calls Tryz.prog 83 #[.string ⟨run.toArray⟩] w fun e w'=>NbD run e∧Below w.heap.size w w':=by
 cases hu:qdy run with
 |none=>exact qiv run hs hl hu w
 |some u=>exact qiu run hs hl u hu w
theorem qov {run:By} (hs:run≠[]) (h:46∈run∨47∈run):qdy run=none:=by
 cases hn:qdy run with
 |none=>rfl
 |some u=>
  have hd:=(qc5 hs hn).1;rcases h with h|h
  ·exact absurd ((qds _).1 (hd _ h)).1 (by decide)
  ·exact absurd ((qds _).1 (hd _ h)).1 (by decide)
end Go.Proofs.YtlmhofjiobmodaaGreatDoor

