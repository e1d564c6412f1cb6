/-
  Scan's contract in two shapes; two numbers added. Condition: the library's ErrRange reads as its text lays it.
-/
import Derived.Test.YtlmhofjiobmodaaGreatDoorP34
import Derived.Test.YtlmhofjiobmodaaGreatDoorP19
import Derived.Test.YtlmhofjiobmodaaGreatDoorP18
set_option maxRecDepth 100000
set_option maxHeartbeats 16000000
namespace Go.Proofs.YtlmhofjiobmodaaGreatDoor
open Go.RowKit Go.Lib
def qf6 (n m:Int):Int:=if 2147483647-n<m then 2147483648 else n+m
theorem qe0 {n m:Int} (h0:0≤n) (h2:0≤m):0≤qf6 n m∧qf6 n m≤2147483648:=by
 unfold qf6;split<;>omega
theorem qkr {s:By} {L:List Tk} (h:qbb s=.ok L) (w:World) (hev:qfx w.heap.size w):
 Calls Tryz.prog 16 #[.string ⟨s.toArray⟩] w fun e w'=>(∃tv,e=.returned (.tuple #[tv,.int .i64 0,.int .i64 0])∧w'.ownsRow w.heap.size 49 6 tv L.length (tkC L))∧Below w.heap.size w w':=by
 refine(qkq s w hev).mono ?_;rintro e w' ⟨g,x⟩;unfold qji at g;rw[h] at g;exact⟨g,x⟩
theorem qim {s:By} {c n:Int} (h:qbb s=.error (c,n)) (w:World) (hev:qfx w.heap.size w):
 Calls Tryz.prog 16 #[.string ⟨s.toArray⟩] w fun e w'=>e=.returned (.tuple #[.slice none 0 0,.int .i64 c,.int .i64 n])∧Below w.heap.size w w':=by
 refine(qkq s w hev).mono ?_;rintro e w' ⟨g,x⟩;unfold qji at g;rw[h] at g;exact⟨g,x⟩
theorem qf7 {s:By} (h:8000<s.length):qbb s=.error (84,8000):=by
 unfold qbb;rw[if_pos h]
theorem qdd {s:By} {c n:Int} (h:qbb s=.error (c,n)):c≠0:=by
 by_cases hl:s.length≤8000
 ·exact(qlt hl h).1.1
 ·rw[qf7 (by omega)] at h
  obtain⟨rfl,_⟩:=Prod.mk.inj (Except.error.inj h);decide
theorem qjm {s:By} {L:List Tk} (h:qbb s=.ok L):s.length≤8000:=by
 rcases Nat.lt_or_ge 8000 s.length with h'|h'
 ·rw[qf7 h'] at h
  cases h
 ·exact h'
def qf8 (s:By) (base:Nat) (e:Ending) (w:World):Prop:=match qdc s with
 |.error (c,q)=>e=.returned (.tuple #[.agg #[.slice none 0 0],.int .i64 c,.int .i64 q])
 |.ok L=>∃v cs bs,e=.returned (.tuple #[.agg #[v],.int .i64 0,.int .i64 0])∧qcy w base L v cs bs
theorem qf8.err {s:By} {base:Nat} {e:Ending} {w:World} {c q:Int} (h:qdc s=.error (c,q)) (he:e=.returned (.tuple #[.agg #[.slice none 0 0],.int .i64 c,.int .i64 q])):qf8 s base e w:=by
 unfold qf8;rw[h];exact he
theorem qf8.okI {s:By} {base:Nat} {e:Ending} {w:World} {L:List IT} {v:Value} {cs:List Value} {bs:List Nat} (h:qdc s=.ok L) (he:e=.returned (.tuple #[.agg #[v],.int .i64 0,.int .i64 0])) (h1:qcy w base L v cs bs):qf8 s base e w:=by
 unfold qf8;rw[h];exact⟨v,cs,bs,he,h1⟩
theorem Kept.low {w w1 w9:World} {F:Nat→Prop} (h:Below w.heap.size w w1) (hk:Kept F w1 w9) (hF:∀k,F k→w.heap.size≤k):Below w.heap.size w w9:=
 ⟨hk.os.trans h.os,hk.tape.trans h.tape,hk.output.trans h.output,Nat.le_trans h.size hk.size,fun k hlt=>(hk.block k (Nat.lt_of_lt_of_le hlt h.size) (fun hf=>by have:=hF k hf;omega)).trans (h.block k hlt)⟩
theorem Leaves.congr {P:Program} {fn:Func} {t1 t2:Array Value} {R:Ending→World→Prop} (hr:results fn t1=results fn t2):∀ {ds:List Deferred} {u:FrameMode} {w:World},Leaves P fn t1 R ds u w→Leaves P fn t2 R ds u w
 |[],.returning,w,h=>by
  obtain⟨v,h1,h2⟩:=h;exact⟨v,by rw[←hr];exact h1,h2⟩
 |[],.panicking chain,w,h=>h
 |[],.run,_,h=>h
 |d::ds,u,w,h=>by
  obtain⟨h0,fv,cap,f,args,h1,h2,h3⟩:=h;refine⟨h0,fv,cap,f,args,h1,h2,h3.mono ?_⟩;intro e u' w' h4;cases e with
  |returned v=>exact Leaves.congr hr h4
  |panicked chain=>exact Leaves.congr hr h4
  |outgrown=>exact h4
theorem qru (a:Act) (d:Nat) (v:Value) (hd:5≤d):results Tryz.f11 (a.put (some d) v).tmps=results Tryz.f11 a.tmps:=by
 have e:∀k,k<5→(a.tmps.setIfInBounds d v)[k]? =a.tmps[k]? :=fun k hk=>by
  rw[Array.getElem?_setIfInBounds_ne (by omega)]
 simp[results,Tryz.results11,Act.put,e]
theorem qfx.up {w w':World} (h:qfx w.heap.size w) (x:Below w.heap.size w w'):qfx w'.heap.size w':=by
 obtain⟨g,tp,p,h1,h2,h3⟩:=h.below x;exact⟨g,tp,p,h1,Nat.lt_of_lt_of_le h2 x.size,h3⟩
theorem qho {s:By} {c q:Int} (h:qbb s=.error (c,q)) (w:World) (hev:qfx w.heap.size w):
 Calls Tryz.prog 11 #[.string ⟨s.toArray⟩] w fun e w'=>qf8 s w.heap.size e w'∧Below w.heap.size w w':=by
 have Bq:Hid (qdc s=.error (c,q)):=by unfold Hid qdc;rw[h]
 have hc:=qdd h;have hcb:(c !=0)=true:=by simpa using hc
 have Nr:∀(fn:Fn) (first cap:Array Value) (w:World),(Instr.makeFunc fn first cap).run Tryz.prog w=.ok (.func fn first cap) w:=fun _ _ _ _=>rfl
 obtain⟨p2,hp2⟩:∃p,p=w.heap.size:=⟨_,rfl⟩;obtain⟨p3,hp3⟩:∃p,p=w.heap.size+1:=⟨_,rfl⟩;obtain⟨p4,Ja⟩:∃p,p=w.heap.size+1+1:=⟨_,rfl⟩;obtain⟨W,hW⟩:∃W,W=((w.alloc (.cells #[.slice none 0 0] 36)).alloc (.cells #[.int .i64 0] 37)).alloc (.cells #[.int .i64 0] 3):=⟨_,rfl⟩;have X0:=qaa (show Below w.heap.size w W by rw[hW];exact al (al (al Yj _) _) _);have A2:=qaa (show W.heap[p2]? =some (.cells #[.slice none 0 0] 36 (0,0)) by
  rw[hW,hp2];exact(heap_alloc_old _ _ (by simp;omega)).trans ((heap_alloc_old _ _ (by simp)).trans (Yh w _)))
 have A3:=qaa (show W.heap[p3]? =some (.cells #[.int .i64 0] 37 (0,0)) by
  rw[hW,hp3,show w.heap.size+1=(w.alloc (.cells #[.slice none 0 0] 36)).heap.size by simp];exact(heap_alloc_old _ _ (by simp)).trans (Yh _ _))
 have A4:=qaa (show W.heap[p4]? =some (.cells #[.int .i64 0] 3 (0,0)) by
  rw[hW,Ja,show w.heap.size+1+1=((w.alloc (.cells #[.slice none 0 0] 36)).alloc (.cells #[.int .i64 0] 37)).heap.size by simp];exact Yh _ _)
 have Bd:Hid (p2=w.heap.size∧p3=w.heap.size+1∧p4=w.heap.size+2∧W.heap.size=w.heap.size+3):=⟨hp2,hp3,Ja,by rw[hW];simp⟩;have ET:=qaa (hev.up X0.out);clear hev;go_enter_defers Tryz.func11,Tryz.ntmps11;go_upto_region 1 with fail
 rw[←Ja,←hp3,←hW,←hp2];clear hW hp2 hp3 Ja;have HS:=qaa (qim h W ET.out);have Ji:=qaa hcb;clear h hc hcb;go_wp2_with (fail);refine HS.out.mono ?_;rintro e w1 ⟨rfl,x1⟩;have X1:=qaa x1;have XA:=qaa (bt X0.out x1 Yi);have B2:=qaa ((x1.block p2 (Yd A2.out)).trans A2.out);have B3:=qaa ((x1.block p3 (Yd A3.out)).trans A3.out);have B4:=qaa ((x1.block p4 (Yd A4.out)).trans A4.out);clear x1 HS A2 A3 A4 X0 X1;have A2:=qaa B2.out;have A3:=qaa B3.out;have A4:=qaa B4.out;clear B2 B3 B4;have c3:w1.cell? ⟨p3,0,none⟩=some (.int .i64 0):=by rw[Ye _ _ _ _ _ _ A3.out];rfl
 have f3:=Yf w1 p3 0 _ _ A3.out;have k3:Kept (fun k=>k=p3) w1 (w1.setCell ⟨p3,0,none⟩ (.int .i64 c)):=Kept.setCell (F:=fun k=>k=p3) (p:=⟨p3,0,none⟩) (Kept.refl _ _) rfl _;have n42:p4≠p3:=by have:=Bd.out;omega
 have n23:p2≠p3∧p2≠p4:=by have:=Bd.out;omega
 have B4:=qaa ((k3.block p4 (Yd A4.out) n42).trans A4.out);have B3:Hid ((w1.setCell ⟨p3,0,none⟩ (.int .i64 c)).heap[p3]? =some (.cells #[.int .i64 c] 37 (0,0))):=by
  have:=qab A3.out 0 (.int .i64 c);simpa [Hid] using this
 have c4:(w1.setCell ⟨p3,0,none⟩ (.int .i64 c)).cell? ⟨p4,0,none⟩=some (.int .i64 0):=by rw[Ye _ _ _ _ _ _ B4.out];rfl
 have f4:=Yf (w1.setCell ⟨p3,0,none⟩ (.int .i64 c)) p4 0 _ _ B4.out;have k4:Kept (fun k=>k=p4) (w1.setCell ⟨p3,0,none⟩ (.int .i64 c)) ((w1.setCell ⟨p3,0,none⟩ (.int .i64 c)).setCell ⟨p4,0,none⟩ (.int .i64 q)):=Kept.setCell (F:=fun k=>k=p4) (p:=⟨p4,0,none⟩) (Kept.refl _ _) rfl _;have C4:Hid (((w1.setCell ⟨p3,0,none⟩ (.int .i64 c)).setCell ⟨p4,0,none⟩ (.int .i64 q)).heap[p4]? =some (.cells #[.int .i64 q] 3 (0,0))):=by
  have:=qab B4.out 0 (.int .i64 q);simpa [Hid] using this
 have C3:=qaa ((k4.block p3 (Yd B3.out) n42.symm).trans B3.out);have D2:=qaa ((k3.block p2 (Yd A2.out) n23.1).trans A2.out);have C2:=qaa ((k4.block p2 (Yd D2.out) n23.2).trans D2.out);have JM:Hid (Kept (fun k=>k=p3∨k=p4) w1 ((w1.setCell ⟨p3,0,none⟩ (.int .i64 c)).setCell ⟨p4,0,none⟩ (.int .i64 q))):=(k3.mono (fun _ h=>.inl h)).trans (k4.mono (fun _ h=>.inr h));go_upto_region 2 with fail
 clear c3 f3 k3 B4 B3 D2 c4 f4 k4 A2 A3 A4;generalize (w1.setCell ⟨p3,0,none⟩ (.int .i64 c)).setCell ⟨p4,0,none⟩ (.int .i64 q)=w2 at *;have c3:w2.cell? ⟨p3,0,none⟩=some (.int .i64 c):=by rw[Ye _ _ _ _ _ _ C3.out];rfl
 have hcb:=Ji.out;go_upto_region 3 with fail
 clear c3 hcb;refine qam (S:=fun V=>V.cell? ⟨p3,0,none⟩=some (.int .i64 c)∧V.cell? ⟨p4,0,none⟩=some (.int .i64 q)) 5 (by kernel_rfl) ?_;have Bb:Hid (Below w2.heap.size w2 w2.drew):=Yj.drew;have D2:=qaa ((Bb.out.block p2 (Yd C2.out)).trans C2.out);have D3:=qaa ((Bb.out.block p3 (Yd C3.out)).trans C3.out);have D4:=qaa ((Bb.out.block p4 (Yd C4.out)).trans C4.out);have KA:Hid (Kept (fun k=>k=p3∨k=p4) w1 w2.drew):=JM.out.trans (Kept.of_below Bb.out);clear Bb C2 C3 C4 JM;generalize w2.drew=wd at *;have SF:Hid (∀V:World,V.heap[p3]? =some (.cells #[.int .i64 c] 37 (0,0))→V.heap[p4]? =some (.cells #[.int .i64 q] 3 (0,0))→V.cell? ⟨p3,0,none⟩=some (.int .i64 c)∧V.cell? ⟨p4,0,none⟩=some (.int .i64 q)):=fun V h1 h2=>⟨by rw[Ye _ _ _ _ _ _ h1];rfl,by rw[Ye _ _ _ _ _ _ h2];rfl⟩
 have SA:=qaa (SF.out wd D3.out D4.out);refine qac.take (i:=0) (some 15) rfl rfl (by kernel_rfl) (by kernel_rfl) (by kernel_rfl) (by kernel_rfl) (fun _ _ a _ h=>Leaves.congr (qru a _ _ (by decide)) h) (by rfl) SA.out ?_;apply Exists.intro;refine⟨fun w' hw'=>?_,?_⟩
 ·obtain⟨q1,q2⟩:=hw'
  go_simp
  first|done|rfl
 try simp only[Act.put,Ya,Yb,Yc]
 refine qac.take (i:=1) (some 16) rfl rfl (by kernel_rfl) (by kernel_rfl) (by kernel_rfl) (by kernel_rfl) (fun _ _ a _ h=>Leaves.congr (qru a _ _ (by decide)) h) (by rfl) SA.out ?_;apply Exists.intro;refine⟨fun w' hw'=>?_,?_⟩
 ·obtain⟨q1,q2⟩:=hw'
  go_simp
  first|done|rfl
 try simp only[Act.put,Ya,Yb,Yc]
 refine qac.take (i:=2) (some 17) rfl rfl (by kernel_rfl) (by kernel_rfl) (by kernel_rfl) (by kernel_rfl) (fun _ _ a _ h=>Leaves.congr (qru a _ _ (by decide)) h) (by rfl) SA.out ?_;apply Exists.intro;refine⟨fun w' hw'=>?_,?_⟩
 ·obtain⟨q1,q2⟩:=hw'
  go_simp
  first|done|rfl
 try simp only[Act.put,Ya,Yb,Yc]
 have ks:∀(V:World) (b:Nat) (u:Value),Kept (fun k=>k=b) V (V.setCell ⟨b,0,none⟩ u):=fun V b u=>Kept.setCell (F:=fun k=>k=b) (p:=⟨b,0,none⟩) (Kept.refl _ _) rfl u
 have c2:wd.cell? ⟨p2,0,none⟩=some (.slice none 0 0):=by rw[Ye _ _ _ _ _ _ D2.out];rfl
 have f2:=Yf wd p2 0 _ _ D2.out;have k2:=ks wd p2 (.slice none 0 0);have E2:Hid ((wd.setCell ⟨p2,0,none⟩ (.slice none 0 0)).heap[p2]? =some (.cells #[.slice none 0 0] 36 (0,0))):=by
  have:=qab D2.out 0 (.slice none 0 0);simpa [Hid] using this
 have E3:=qaa ((k2.block p3 (Yd D3.out) n23.1.symm).trans D3.out);have E4:=qaa ((k2.block p4 (Yd D4.out) n23.2.symm).trans D4.out);have KB:Hid (Kept (fun k=>k=p2∨k=p3∨k=p4) w1 (wd.setCell ⟨p2,0,none⟩ (.slice none 0 0))):=(KA.out.mono (fun _ h=>.inr h)).trans (k2.mono (fun _ h=>.inl h));have SB:=qaa (SF.out _ E3.out E4.out);refine qac.stq 3 rfl fun K hK=>?_
 go_simp;refine hK _ _ SB.out ?_;clear hK K c2 f2 k2 D2 D3 D4 KA SA;generalize wd.setCell ⟨p2,0,none⟩ (.slice none 0 0)=w4 at *;have c3:=SB.out.1;have f3:=Yf w4 p3 0 _ _ E3.out;have k3:=ks w4 p3 (.int .i64 c);have F3:Hid ((w4.setCell ⟨p3,0,none⟩ (.int .i64 c)).heap[p3]? =some (.cells #[.int .i64 c] 37 (0,0))):=by
  have:=qab E3.out 0 (.int .i64 c);simpa [Hid] using this
 have F2:=qaa ((k3.block p2 (Yd E2.out) n23.1).trans E2.out);have F4:=qaa ((k3.block p4 (Yd E4.out) n42).trans E4.out);have KC:Hid (Kept (fun k=>k=p2∨k=p3∨k=p4) w1 (w4.setCell ⟨p3,0,none⟩ (.int .i64 c))):=KB.out.trans (k3.mono (fun _ h=>.inr (.inl h)));have SC:=qaa (SF.out _ F3.out F4.out);refine qac.stq 4 rfl fun K hK=>?_
 go_simp;refine hK _ _ SC.out ?_;clear hK K c3 f3 k3 E2 E3 E4 KB SB;generalize w4.setCell ⟨p3,0,none⟩ (.int .i64 c)=w5 at *;have c4:=SC.out.2;have f4:=Yf w5 p4 0 _ _ F4.out;have k4:=ks w5 p4 (.int .i64 q);have G4:Hid ((w5.setCell ⟨p4,0,none⟩ (.int .i64 q)).heap[p4]? =some (.cells #[.int .i64 q] 3 (0,0))):=by
  have:=qab F4.out 0 (.int .i64 q);simpa [Hid] using this
 have G2:=qaa ((k4.block p2 (Yd F2.out) n23.2).trans F2.out);have G3:=qaa ((k4.block p3 (Yd F3.out) n42.symm).trans F3.out);have KD:Hid (Kept (fun k=>k=p2∨k=p3∨k=p4) w1 (w5.setCell ⟨p4,0,none⟩ (.int .i64 q))):=KC.out.trans (k4.mono (fun _ h=>.inr (.inr h)));refine qac.lst rfl fun K hK=>?_
 go_simp;refine hK _ _ ?_;clear hK K c4 f4 k4 F2 F3 F4 KC SC SF;generalize w5.setCell ⟨p4,0,none⟩ (.int .i64 q)=w9 at *;have g2:w9.cell? ⟨p2,0,none⟩=some (.slice none 0 0):=by rw[Ye _ _ _ _ _ _ G2.out];rfl
 have g3:w9.cell? ⟨p3,0,none⟩=some (.int .i64 c):=by rw[Ye _ _ _ _ _ _ G3.out];rfl
 have g4:w9.cell? ⟨p4,0,none⟩=some (.int .i64 q):=by rw[Ye _ _ _ _ _ _ G4.out];rfl
 have XB:Hid (Below w.heap.size w w9):=Kept.low XA.out KD.out (fun k hk=>by have:=Bd.out;rcases hk with e|e|e<;>omega);go_wp2;simp only[bodyPostD,Leaves];exact⟨.tuple #[.agg #[.slice none 0 0],.int .i64 c,.int .i64 q],by simp[results,Tryz.results11,go_sem,g2,g3,g4],qf8.err Bq.out rfl,XB.out⟩
theorem qlu {s:By} {Ts:List Tk} (h:qbb s=.ok Ts) (w:World) (hev:qfx w.heap.size w):
 Calls Tryz.prog 11 #[.string ⟨s.toArray⟩] w fun e w'=>qf8 s w.heap.size e w'∧Below w.heap.size w w':=by
 have Bq:Hid (qdc s=match qfp Ts with
  |.ok L _=>.ok L
  |.bad e p=>.error (e,p)
  |.out=>.error (0,0)):=by unfold Hid qdc;rw[h];rfl
 have Bp:=qaa (qf5 h);have Nr:∀(fn:Fn) (first cap:Array Value) (w:World),(Instr.makeFunc fn first cap).run Tryz.prog w=.ok (.func fn first cap) w:=fun _ _ _ _=>rfl
 obtain⟨p2,hp2⟩:∃p,p=w.heap.size:=⟨_,rfl⟩;obtain⟨p3,hp3⟩:∃p,p=w.heap.size+1:=⟨_,rfl⟩;obtain⟨p4,Ja⟩:∃p,p=w.heap.size+1+1:=⟨_,rfl⟩;obtain⟨W,hW⟩:∃W,W=((w.alloc (.cells #[.slice none 0 0] 36)).alloc (.cells #[.int .i64 0] 37)).alloc (.cells #[.int .i64 0] 3):=⟨_,rfl⟩;have X0:=qaa (show Below w.heap.size w W by rw[hW];exact al (al (al Yj _) _) _);have A2:=qaa (show W.heap[p2]? =some (.cells #[.slice none 0 0] 36 (0,0)) by
  rw[hW,hp2];exact(heap_alloc_old _ _ (by simp;omega)).trans ((heap_alloc_old _ _ (by simp)).trans (Yh w _)))
 have A3:=qaa (show W.heap[p3]? =some (.cells #[.int .i64 0] 37 (0,0)) by
  rw[hW,hp3,show w.heap.size+1=(w.alloc (.cells #[.slice none 0 0] 36)).heap.size by simp];exact(heap_alloc_old _ _ (by simp)).trans (Yh _ _))
 have A4:=qaa (show W.heap[p4]? =some (.cells #[.int .i64 0] 3 (0,0)) by
  rw[hW,Ja,show w.heap.size+1+1=((w.alloc (.cells #[.slice none 0 0] 36)).alloc (.cells #[.int .i64 0] 37)).heap.size by simp];exact Yh _ _)
 have Bd:Hid (p2=w.heap.size∧p3=w.heap.size+1∧p4=w.heap.size+2∧W.heap.size=w.heap.size+3):=⟨hp2,hp3,Ja,by rw[hW];simp⟩;have ET:=qaa (hev.up X0.out);clear hev;go_enter_defers Tryz.func11,Tryz.ntmps11;go_upto_region 1 with fail
 rw[←Ja,←hp3,←hW,←hp2];clear hW hp2 hp3 Ja;have HS:=qaa (qkr h W ET.out);clear h;go_wp2_with (fail);refine HS.out.mono ?_;rintro e w1 ⟨⟨tv,rfl,ht⟩,x1⟩;obtain⟨av,cv,Ng,BS⟩:=qad ht;obtain⟨g,hg⟩:=BS Bp.out.pos;subst hg;subst Ng;have HT:=qaa ht;have XA:=qaa (bt X0.out x1 Yi);have B2:=qaa ((x1.block p2 (Yd A2.out)).trans A2.out);have B3:=qaa ((x1.block p3 (Yd A3.out)).trans A3.out);have B4:=qaa ((x1.block p4 (Yd A4.out)).trans A4.out);clear x1 HS A2 A3 A4 X0 ht BS;have A2:=qaa B2.out;have A3:=qaa B3.out;have A4:=qaa B4.out;clear B2 B3 B4;have c3:w1.cell? ⟨p3,0,none⟩=some (.int .i64 0):=by rw[Ye _ _ _ _ _ _ A3.out];rfl
 have f3:=Yf w1 p3 0 _ _ A3.out;have k3:Kept (fun k=>k=p3) w1 (w1.setCell ⟨p3,0,none⟩ (.int .i64 0)):=Kept.setCell (F:=fun k=>k=p3) (p:=⟨p3,0,none⟩) (Kept.refl _ _) rfl _;have n42:p4≠p3:=by have:=Bd.out;omega
 have n23:p2≠p3∧p2≠p4:=by have:=Bd.out;omega
 have B4:=qaa ((k3.block p4 (Yd A4.out) n42).trans A4.out);have B3:Hid ((w1.setCell ⟨p3,0,none⟩ (.int .i64 0)).heap[p3]? =some (.cells #[.int .i64 0] 37 (0,0))):=by
  have:=qab A3.out 0 (.int .i64 0);simpa [Hid] using this
 have c4:(w1.setCell ⟨p3,0,none⟩ (.int .i64 0)).cell? ⟨p4,0,none⟩=some (.int .i64 0):=by rw[Ye _ _ _ _ _ _ B4.out];rfl
 have f4:=Yf (w1.setCell ⟨p3,0,none⟩ (.int .i64 0)) p4 0 _ _ B4.out;have k4:Kept (fun k=>k=p4) (w1.setCell ⟨p3,0,none⟩ (.int .i64 0)) ((w1.setCell ⟨p3,0,none⟩ (.int .i64 0)).setCell ⟨p4,0,none⟩ (.int .i64 0)):=Kept.setCell (F:=fun k=>k=p4) (p:=⟨p4,0,none⟩) (Kept.refl _ _) rfl _;have C4:Hid (((w1.setCell ⟨p3,0,none⟩ (.int .i64 0)).setCell ⟨p4,0,none⟩ (.int .i64 0)).heap[p4]? =some (.cells #[.int .i64 0] 3 (0,0))):=by
  have:=qab B4.out 0 (.int .i64 0);simpa [Hid] using this
 have C3:=qaa ((k4.block p3 (Yd B3.out) n42.symm).trans B3.out);have D2:=qaa ((k3.block p2 (Yd A2.out) n23.1).trans A2.out);have C2:=qaa ((k4.block p2 (Yd D2.out) n23.2).trans D2.out);have JM:Hid (Kept (fun k=>k=p3∨k=p4) w1 ((w1.setCell ⟨p3,0,none⟩ (.int .i64 0)).setCell ⟨p4,0,none⟩ (.int .i64 0))):=(k3.mono (fun _ h=>.inl h)).trans (k4.mono (fun _ h=>.inr h));go_upto_region 2 with fail
 clear c3 f3 k3 B4 B3 D2 c4 f4 k4 A2 A3 A4;have Rh:Hid (W.heap.size≤g):=(World.ownsRow.lt HT.out g rfl).1;have HT2:=qaa (qai HT.out JM.out (fun k hk hf=>by
  have e:g=k:=by simpa [Value.ownBlock] using hk
  have:=Rh.out;have:=Bd.out;rcases hf with h|h<;>omega))
 have X2:Hid (Below w.heap.size w ((w1.setCell ⟨p3,0,none⟩ (.int .i64 0)).setCell ⟨p4,0,none⟩ (.int .i64 0))):=Kept.low XA.out JM.out (fun k hk=>by have:=Bd.out;rcases hk with e|e<;>omega);clear HT XA JM;generalize (w1.setCell ⟨p3,0,none⟩ (.int .i64 0)).setCell ⟨p4,0,none⟩ (.int .i64 0)=w2 at *;have c3:w2.cell? ⟨p3,0,none⟩=some (.int .i64 0):=by rw[Ye _ _ _ _ _ _ C3.out];rfl
 have XR:Hid (Below w2.heap.size w2 (w2.alloc (.cells #[.slice (some ⟨g,0,none⟩) Ts.length cv,.int .i64 0] 73))):=al Yj _;have RB:=qaa (Yh w2 (.cells #[.slice (some ⟨g,0,none⟩) Ts.length cv,.int .i64 0] 73));go_upto_region 6 with fail
 clear c3;obtain⟨rp,Jr⟩:∃rp,rp=w2.heap.size:=⟨_,rfl⟩;rw[←Jr] at RB;rw[←Jr];have R5:Hid (RdA (w2.alloc (.cells #[.slice (some ⟨g,0,none⟩) Ts.length cv,.int .i64 0] 73)) W.heap.size rp g cv Ts 0):=⟨RB.out,own_below HT2.out XR.out,Bp.out.pos,by have:=Bp.out.few;omega,Bp.out.endk⟩;have D2:=qaa ((XR.out.block p2 (Yd C2.out)).trans C2.out);have D3:=qaa ((XR.out.block p3 (Yd C3.out)).trans C3.out);have D4:=qaa ((XR.out.block p4 (Yd C4.out)).trans C4.out);have X5:=qaa (bt X2.out XR.out Yi);have E9:Hid (w.heap.size≤rp∧p2≠rp∧p3≠rp∧p4≠rp):=by
  have:=Yd C2.out;have:=Yd C3.out;have:=Yd C4.out;have:=X2.out.size;unfold Hid;omega
 clear Jr RB HT2 XR C2 C3 C4 X2;generalize w2.alloc (.cells #[.slice (some ⟨g,0,none⟩) Ts.length cv,.int .i64 0] 73)=w5 at *;have HP:=qaa (qlg (f:=5*Ts.length+6) Yi R5.out);have Gb:Hid (qfp Ts≠.out):=(qj6 (5*Ts.length+6) [] 0 (by omega) (by omega)).ne;rw[show qg7 Ts (5*Ts.length+6) [] 0=qfp Ts from rfl] at HP;go_wp2_with (fail);refine HP.out.mono ?_;intro e w6 hp;have n23':=n23;cases Bh:qfp Ts with
 |out=>exact absurd Bh Gb.out
 |bad e0 p=>
  rw[Bh] at hp Bq;obtain⟨he,k6⟩:=hp;unfold pan at he;subst he;have E2:=qaa ((k6.block p2 (Yd D2.out) E9.out.2.1).trans D2.out);have E3:=qaa ((k6.block p3 (Yd D3.out) E9.out.2.2.1).trans D3.out);have E4:=qaa ((k6.block p4 (Yd D4.out) E9.out.2.2.2).trans D4.out);have X6:Hid (Below w.heap.size w w6):=Kept.low X5.out k6 (fun k hk=>by have:=E9.out.1;rw[hk];exact this);clear k6 D2 D3 D4 X5 HP R5;refine leaves_cons (f:=27) (args:=#[.pointer (some ⟨p2,0,none⟩),.pointer (some ⟨p3,0,none⟩),.pointer (some ⟨p4,0,none⟩)]) (by simp) (by simp[go_sem]) ?_;refine(qlm e0 p [] E2.out E3.out E4.out).mono ?_;rintro e u' w7 ⟨rfl,rfl,h2,h3,h4,k7⟩;have g2:w7.cell? ⟨p2,0,none⟩=some (.slice none 0 0):=by rw[Ye _ _ _ _ _ _ h2];rfl
  have g3:w7.cell? ⟨p3,0,none⟩=some (.int .i64 e0):=by rw[Ye _ _ _ _ _ _ h3];rfl
  have g4:w7.cell? ⟨p4,0,none⟩=some (.int .i64 p):=by rw[Ye _ _ _ _ _ _ h4];rfl
  have X7:Below w.heap.size w w7:=Kept.low X6.out k7 (fun k hk=>by have:=Bd.out;rcases hk with e|e|e<;>omega);simp only[settle];exact⟨.tuple #[.agg #[.slice none 0 0],.int .i64 e0,.int .i64 p],by simp[results,Tryz.results11,go_sem,g2,g3,g4],qf8.err Bq.out rfl,X7⟩
 |ok L j=>
  rw[Bh] at hp Bq;obtain⟨⟨v,cs,bs,rfl,hpo⟩,k6⟩:=hp;obtain⟨a6,c6,hv,_⟩:=qad hpo.row;subst hv;have E2:=qaa ((k6.block p2 (Yd D2.out) E9.out.2.1).trans D2.out);have E3:=qaa ((k6.block p3 (Yd D3.out) E9.out.2.2.1).trans D3.out);have E4:=qaa ((k6.block p4 (Yd D4.out) E9.out.2.2.2).trans D4.out);have X6:Hid (Below w.heap.size w w6):=Kept.low X5.out k6 (fun k hk=>by have:=E9.out.1;rw[hk];exact this);have O6:=qaa hpo;have OH:Hid (p2<w5.heap.size∧p3<w5.heap.size∧p4<w5.heap.size):=⟨Yd D2.out,Yd D3.out,Yd D4.out⟩;clear k6 D2 D3 D4 X5 HP R5 hpo Bh;have ks:∀(V:World) (b:Nat) (u:Value),Kept (fun k=>k=b) V (V.setCell ⟨b,0,none⟩ u):=fun V b u=>Kept.setCell (F:=fun k=>k=b) (p:=⟨b,0,none⟩) (Kept.refl _ _) rfl u
  have c2:w6.cell? ⟨p2,0,none⟩=some (.slice none 0 0):=by rw[Ye _ _ _ _ _ _ E2.out];rfl
  have f2:=Yf w6 p2 0 _ _ E2.out;have k2:=ks w6 p2 (.slice a6 L.length c6);have F2:Hid ((w6.setCell ⟨p2,0,none⟩ (.slice a6 L.length c6)).heap[p2]? =some (.cells #[.slice a6 L.length c6] 36 (0,0))):=by
   have:=qab E2.out 0 (.slice a6 L.length c6);simpa [Hid] using this
  have F3:=qaa ((k2.block p3 (Yd E3.out) n23.1.symm).trans E3.out);have F4:=qaa ((k2.block p4 (Yd E4.out) n23.2.symm).trans E4.out);obtain⟨w7,hw7⟩:∃w7,w7=w6.setCell ⟨p2,0,none⟩ (.slice a6 L.length c6):=⟨_,rfl⟩;rw[←hw7] at F2 F3 F4 k2;have c3:w7.cell? ⟨p3,0,none⟩=some (.int .i64 0):=by rw[Ye _ _ _ _ _ _ F3.out];rfl
  have f3:=Yf w7 p3 0 _ _ F3.out;have k3:=ks w7 p3 (.int .i64 0);have G3:Hid ((w7.setCell ⟨p3,0,none⟩ (.int .i64 0)).heap[p3]? =some (.cells #[.int .i64 0] 37 (0,0))):=by
   have:=qab F3.out 0 (.int .i64 0);simpa [Hid] using this
  have G2:=qaa ((k3.block p2 (Yd F2.out) n23.1).trans F2.out);have G4:=qaa ((k3.block p4 (Yd F4.out) n42).trans F4.out);obtain⟨w8,hw8⟩:∃w8,w8=w7.setCell ⟨p3,0,none⟩ (.int .i64 0):=⟨_,rfl⟩;rw[←hw8] at G2 G3 G4 k3;have c4:w8.cell? ⟨p4,0,none⟩=some (.int .i64 0):=by rw[Ye _ _ _ _ _ _ G4.out];rfl
  have f4:=Yf w8 p4 0 _ _ G4.out;have k4:=ks w8 p4 (.int .i64 0);have I4:Hid ((w8.setCell ⟨p4,0,none⟩ (.int .i64 0)).heap[p4]? =some (.cells #[.int .i64 0] 3 (0,0))):=by
   have:=qab G4.out 0 (.int .i64 0);simpa [Hid] using this
  have I2:=qaa ((k4.block p2 (Yd G2.out) n23.2).trans G2.out);have I3:=qaa ((k4.block p3 (Yd G3.out) n42.symm).trans G3.out);obtain⟨w9,ER⟩:∃w9,w9=w8.setCell ⟨p4,0,none⟩ (.int .i64 0):=⟨_,rfl⟩;rw[←ER] at I2 I3 I4 k4;have K9:Hid (Kept (fun k=>k=p2∨k=p3∨k=p4) w6 w9):=((k2.mono (fun _ h=>.inl h)).trans (k3.mono (fun _ h=>.inr (.inl h)))).trans (k4.mono (fun _ h=>.inr (.inr h)));rw[hw7] at c3 f3;rw[hw8,hw7] at c4 f4;rw[hw8,hw7] at ER;clear hw8 hw7 k2 k3 k4 E2 E3 E4 F2 F3 F4 G2 G3 G4;have X9:Hid (Below w.heap.size w w9):=Kept.low X6.out K9.out (fun k hk=>by have:=Bd.out;rcases hk with e|e|e<;>omega);have O9:Hid (qcy w9 w5.heap.size L (.slice a6 L.length c6) cs bs):=O6.out.frame K9.out (fun k hk=>by have:=OH.out;rcases hk with e|e|e<;>omega);go_wp2;rw[←ER];clear ER c2 f2 c3 f3 c4 f4;have Na:=qaa (qi9 p2 p3 p4 w9);refine leaves_cons (f:=27) (args:=#[.pointer (some ⟨p2,0,none⟩),.pointer (some ⟨p3,0,none⟩),.pointer (some ⟨p4,0,none⟩)]) (by simp) (by simp[go_sem]) ?_;refine Na.out.mono ?_;rintro e u' wz ⟨rfl,rfl,xz⟩;have g2:wz.cell? ⟨p2,0,none⟩=some (.slice a6 L.length c6):=by rw[Ye _ _ _ _ _ _ ((xz.block p2 (Yd I2.out)).trans I2.out)];rfl
  have g3:wz.cell? ⟨p3,0,none⟩=some (.int .i64 0):=by rw[Ye _ _ _ _ _ _ ((xz.block p3 (Yd I3.out)).trans I3.out)];rfl
  have g4:wz.cell? ⟨p4,0,none⟩=some (.int .i64 0):=by rw[Ye _ _ _ _ _ _ ((xz.block p4 (Yd I4.out)).trans I4.out)];rfl
  simp only[settle,Leaves];exact⟨.tuple #[.agg #[.slice a6 L.length c6],.int .i64 0,.int .i64 0],by simp[results,Tryz.results11,go_sem,g2,g3,g4],qf8.okI Bq.out rfl ((O9.out.below xz).mono (by have:=OH.out;have:=Bd.out;omega)),bt X9.out xz Yi⟩
theorem qf9 (s:By) (w:World) (hev:qfx w.heap.size w):Calls Tryz.prog 11 #[.string ⟨s.toArray⟩] w fun e w'=>qf8 s w.heap.size e w'∧Below w.heap.size w w':=by
 cases h:qbb s with
 |error x=>exact qho (c:=x.1) (q:=x.2) h w hev
 |ok Ts=>exact qlu h w hev
theorem qin {w:World} {b0:Nat} {v:Value} (ho:w.ownsRow b0 62 11 v 1 zit.toList):Calls Tryz.prog 42 #[.agg #[v]] w fun e w'=>e=pan 93 0∧Below w.heap.size w w':=by
 obtain⟨ao,cp,hv,BS⟩:=qad ho;subst hv;obtain⟨g,hg⟩:=BS (by decide);subst hg;clear BS;have XW:=qaa (show Below w.heap.size w (w.alloc (.cells #[.slice (some ⟨g,0,none⟩) 1 cp] 36)) from al Yj _);have HB:=qaa (Yh w (.cells #[.slice (some ⟨g,0,none⟩) 1 cp] 36));have HO:=qaa (own_below ho XW.out);have HM:=qaa qbn;clear ho;obtain⟨P,hP⟩:∃P,P=w.heap.size:=⟨_,rfl⟩;go_enter Tryz.func42,Tryz.ntmps42;go_upto_region 1 with fail
 rw[←hP] at HB ⊢;clear hP;generalize w.alloc (.cells #[.slice (some ⟨g,0,none⟩) 1 cp] 36)=W at *;have q0:W.cell? ⟨P,0,none⟩=some (.slice (some ⟨g,0,none⟩) 1 cp):=by rw[Ye _ _ _ _ _ _ HB.out];rfl
 go_upto_region 2 with(go_at_call 65;refine(HM.out _).mono ?_;rintro e w2 ⟨rfl,hw⟩;have hw2:=hw.symm;clear hw;subst hw2)
 clear q0;have XQ:Hid (Below W.heap.size W (W.alloc (.cells #[.pointer none,.slice none 0 0,.bool true] 120))):=al Yj _;have HB2:=qaa ((XQ.out.block P (Yd HB.out)).trans HB.out);have Dw:=qaa (own_below HO.out XQ.out);have XX:=qaa (bt XW.out XQ.out Yi);go_upto_region 3 with fail
 obtain⟨Q,hQ⟩:∃Q,Q=W.heap.size:=⟨_,rfl⟩;rw[←hQ];clear hQ HB HO XW XQ;generalize W.alloc (.cells #[.pointer none,.slice none 0 0,.bool true] 120)=W2 at *;have q0:W2.cell? ⟨P,0,none⟩=some (.slice (some ⟨g,0,none⟩) 1 cp):=by rw[Ye _ _ _ _ _ _ HB2.out];rfl
 go_wp2;clear q0;go_loopg [5,15] 2 (fun gg x5 x15 wr=>x15=.int .i64 0∧Hid (Below W2.heap.size W2 wr)∧0<gg)
 case atStart=>exact⟨rfl,qaa Yj,by omega⟩
 case round=>
  obtain⟨rfl,XR,hg⟩:=hrel;clear hg;have hcl:∀r,r<11→wr.cell? ⟨g,r,none⟩=zit.toList[r]? :=fun r hr=>World.ownsRow.cellAt (own_below Dw.out XR.out) r (by omega)
  have q0:=hcl 0 (by omega);have q1:=hcl 1 (by omega);have q2:=hcl 2 (by omega);have q3:=hcl 3 (by omega);have q4:=hcl 4 (by omega);have q5:=hcl 5 (by omega);have q6:=hcl 6 (by omega);have q7:=hcl 7 (by omega);have q8:=hcl 8 (by omega);have q9:=hcl 9 (by omega);have q10:=hcl 10 (by omega);unfold zit at q0 q1 q2 q3 q4 q5 q6 q7 q8 q9 q10;simp only[List.getElem?_cons_zero,List.getElem?_cons_succ] at q0 q1 q2 q3 q4 q5 q6 q7 q8 q9 q10;clear hcl;have Bg:=qaa (Yh wr (.cells #[.int .i64 0,.string ⟨#[]⟩,.int .i64 0,.string ⟨#[]⟩,.string ⟨#[]⟩,.slice none 0 0,.slice none 0 0,.slice none 0 0,.slice none 0 0,.int .i64 0,.int .i64 0] 62));have XK:Hid (Below wr.heap.size wr (wr.alloc (.cells #[.int .i64 0,.string ⟨#[]⟩,.int .i64 0,.string ⟨#[]⟩,.string ⟨#[]⟩,.slice none 0 0,.slice none 0 0,.slice none 0 0,.slice none 0 0,.int .i64 0,.int .i64 0] 62))):=al Yj _;have X2:=qaa (bt (bt XX.out XR.out Yi) XK.out Yi);go_upto_region 6 with fail
  clear q0 q1 q2 q3 q4 q5 q6 q7 q8 q9 q10;obtain⟨B,hB⟩:∃B,B=wr.heap.size:=⟨_,rfl⟩;rw[←hB] at Bg ⊢;clear hB XK XR;generalize wr.alloc (.cells #[.int .i64 0,.string ⟨#[]⟩,.int .i64 0,.string ⟨#[]⟩,.string ⟨#[]⟩,.slice none 0 0,.slice none 0 0,.slice none 0 0,.slice none 0 0,.int .i64 0,.int .i64 0] 62)=wk at *;obtain⟨q0,q1,q2,q3,q4,q5,q6,q7,q8,q9,q10⟩:=qic Bg.out;have HZ:=qaa (qlf wk ⟨Q,0,none⟩);unfold zit at HZ;go_wp2_with (go_at_call 66;refine HZ.out.mono ?_;rintro e w2 ⟨he',x2⟩;unfold pan at he';subst he';have X3:=qaa (bt X2.out x2 Yi);clear x2);exact⟨rfl,rfl,X3.out⟩
theorem qlv {w:World} {p2 p3:Nat} {x2:ByteArray} {x3:Int} (e0 q:Int) (older:List PanicEntry) (h2:w.heap[p2]? =some (.cells #[.string x2] 9 (0,0))) (h3:w.heap[p3]? =some (.cells #[.int .i64 x3] 37 (0,0))):
 CallsD Tryz.prog 41 #[.pointer (some ⟨p2,0,none⟩),.pointer (some ⟨p3,0,none⟩)] (.panicking ({ v:=.iface 70 (.agg #[.int .i64 e0,.int .i64 q]),recovered:=false }::older)) w fun e u' w'=>
  e=.returned (.tuple #[])∧u'=.panicking ({ v:=.iface 70 (.agg #[.int .i64 e0,.int .i64 q]),recovered:=true }::older)∧w'.heap[p2]? =some (.cells #[.string ⟨#[]⟩] 9 (0,0))∧w'.heap[p3]? =some (.cells #[.int .i64 e0] 37 (0,0))∧Kept (fun k=>k=p2∨k=p3) w w':=by
 have Gf:=qqx;have H2:=qaa h2;have H3:=qaa h3;clear h2 h3;refine callsD_of_wpS Tryz.func41 rfl fun c₀ cs hu=>?_
 apply wpS_seq;apply wpS_region;simp[wpOpsS,go_sem,recoverD,hu,Tryz.ntmps41,Exit.thenS,Gf];clear Gf;have hrep:Array.replicate 10 undef=#[undef,undef,undef,undef,undef,undef,undef,undef,undef,undef]:=rfl;simp only[hrep,Ya,Yb,Yc,List.append_toArray,List.cons_append,List.nil_append];clear hrep;refine wpS_of_wp ?_;go_upto_region 2 with fail
 have XW:Hid (Below w.heap.size w (w.alloc (.cells #[.int .i64 e0,.int .i64 q] 70))):=al Yj _;have PW:=qaa (Yh w (.cells #[.int .i64 e0,.int .i64 q] 70));obtain⟨P,hP⟩:∃P,P=w.heap.size:=⟨_,rfl⟩;rw[←hP] at PW;rw[←hP];have HP:=qaa hP;clear hP;generalize w.alloc (.cells #[.int .i64 e0,.int .i64 q] 70)=W at *;refine qam (S:=fun V=>V.cell? ⟨P,0,none⟩=some (.int .i64 e0)) 3 (by kernel_rfl) ?_;have Bb:Hid (Below W.heap.size W W.drew):=Yj.drew;have X2:=qaa (bt XW.out Bb.out Yi);have P2:=qaa ((Bb.out.block P (Yd PW.out)).trans PW.out);clear Bb XW PW;generalize W.drew=wd at *;have S2:Hid (wd.cell? ⟨P,0,none⟩=some (.int .i64 e0)):=by unfold Hid;rw[Ye _ _ _ _ _ _ P2.out];rfl
 have n2:P≠p2:=by have:=HP.out;have:=Yd H2.out;omega
 have n3:P≠p3:=by have:=HP.out;have:=Yd H3.out;omega
 have n32:p3≠p2:=fun e=>qar H3.out H2.out (by decide) e
 have A2:=qaa ((X2.out.block p2 (Yd H2.out)).trans H2.out);have A3:=qaa ((X2.out.block p3 (Yd H3.out)).trans H3.out);have ks:∀(V:World) (b:Nat) (u:Value),Kept (fun k=>k=b) V (V.setCell ⟨b,0,none⟩ u):=fun V b u=>Kept.setCell (F:=fun k=>k=b) (p:=⟨b,0,none⟩) (Kept.refl _ _) rfl u
 refine qac.tk 0 rfl 10 S2.out (fun a b=>by have _:=b;go_simp;first|done|rfl) ?_
 try simp only[Act.put,Ya,Yb,Yc]
 refine qac.tk 1 rfl 11 S2.out (fun a b=>by have _:=b;go_simp;first|done|rfl) ?_
 try simp only[Act.put,Ya,Yb,Yc]
 have c7:wd.cell? ⟨p2,0,none⟩=some (.string x2):=by rw[Ye _ _ _ _ _ _ A2.out];rfl
 have f7:=Yf wd p2 0 _ _ A2.out;have k7:=ks wd p2 (.string ⟨#[]⟩);have b7:(wd.setCell ⟨p2,0,none⟩ (.string ⟨#[]⟩)).heap[p2]? =some (.cells #[(.string ⟨#[]⟩)] 9 (0,0)):=by
  have:=qab A2.out 0 (.string ⟨#[]⟩);simpa using this
 have Bp3:=qaa ((k7.block p3 (Yd A3.out) n32).trans A3.out);have BP:=qaa ((k7.block P (Yd P2.out) n2).trans P2.out);have Bp2:=qaa b7;have K5:Hid (Kept (fun k=>k=p2∨k=p3) w (wd.setCell ⟨p2,0,none⟩ (.string ⟨#[]⟩))):=(Kept.of_below X2.out).trans (k7.mono (fun _ h=>.inl h));have S5:Hid ((wd.setCell ⟨p2,0,none⟩ (.string ⟨#[]⟩)).cell? ⟨P,0,none⟩=some (.int .i64 e0)):=by unfold Hid;rw[Ye _ _ _ _ _ _ BP.out];rfl
 refine qac.stq 2 rfl fun K hK=>?_
 go_simp;refine hK _ _ S5.out ?_;clear hK K c7 f7 k7 b7 A2 A3 P2 S2 X2;generalize wd.setCell ⟨p2,0,none⟩ (.string ⟨#[]⟩)=w5 at *;have A2:=qaa Bp2.out;have A3:=qaa Bp3.out;clear Bp2 Bp3 BP;have c7:w5.cell? ⟨p3,0,none⟩=some (.int .i64 x3):=by rw[Ye _ _ _ _ _ _ A3.out];rfl
 have f7:=Yf w5 p3 0 _ _ A3.out;have k7:=ks w5 p3 (.int .i64 e0);have b7:(w5.setCell ⟨p3,0,none⟩ (.int .i64 e0)).heap[p3]? =some (.cells #[(.int .i64 e0)] 37 (0,0)):=by
  have:=qab A3.out 0 (.int .i64 e0);simpa using this
 have Bp2:=qaa ((k7.block p2 (Yd A2.out) n32.symm).trans A2.out);have Bp3:=qaa b7;have K6:Hid (Kept (fun k=>k=p2∨k=p3) w (w5.setCell ⟨p3,0,none⟩ (.int .i64 e0))):=K5.out.trans (k7.mono (fun _ h=>.inr h));refine qac.lst rfl fun K hK=>?_
 go_simp;refine hK _ _ ?_;clear hK K c7 f7 k7 b7 A2 A3 S5 K5;generalize w5.setCell ⟨p3,0,none⟩ (.int .i64 e0)=w7 at *
 try go_wp2
 simp[bodyPostS,results,Tryz.results41];exact⟨Bp2.out,Bp3.out,K6.out⟩
theorem qjn (p2 p3:Nat) (w:World):
 CallsD Tryz.prog 41 #[.pointer (some ⟨p2,0,none⟩),.pointer (some ⟨p3,0,none⟩)] .returning w fun e u' w'=>e=.returned (.tuple #[])∧u'=.returning∧Below w.heap.size w w':=by
 have Gf:=qne;refine callsD_of_wpS Tryz.func41 rfl fun c₀ cs hu=>?_
 apply wpS_seq;apply wpS_region;simp[wpOpsS,go_sem,recoverD,hu,Tryz.ntmps41,Exit.thenS,Gf];clear Gf;have hrep:Array.replicate 10 undef=#[undef,undef,undef,undef,undef,undef,undef,undef,undef,undef]:=rfl;simp only[hrep,Ya,Yb,Yc,List.append_toArray,List.cons_append,List.nil_append];clear hrep;refine wpS_of_wp ?_;go_wp2;cases c₀
 simp_all [bodyPostS,results,Tryz.results41]
 exact al Yj _
theorem qks {w:World} {v:Value} {ao:Option Addr} {n cp:Nat} (hv:v=.slice ao n cp) (bad:Bool) (t:By)
 (hw:∀V,Below w.heap.size w V→Calls Tryz.prog 42 #[.agg #[v]] V fun e w'=>(if bad=true then e=pan 93 0 else e=.returned (.string ⟨t.toArray⟩))∧Below V.heap.size V w'):
 Calls Tryz.prog 20 #[.agg #[v]] w fun e w'=>e=.returned (.tuple #[.string ⟨(if bad=true then [] else t).toArray⟩,.int .i64 (if bad=true then 93 else 0)])∧Below w.heap.size w w':=by
 subst hv;have Nr:∀(fn:Fn) (first cap:Array Value) (w:World),(Instr.makeFunc fn first cap).run Tryz.prog w=.ok (.func fn first cap) w:=fun _ _ _ _=>rfl
 obtain⟨p1,hp1⟩:∃p,p=w.heap.size:=⟨_,rfl⟩;obtain⟨p2,hp2⟩:∃p,p=w.heap.size+1:=⟨_,rfl⟩;obtain⟨p3,hp3⟩:∃p,p=w.heap.size+1+1:=⟨_,rfl⟩;obtain⟨W,hW⟩:∃W,W=((w.alloc (.cells #[.slice ao n cp] 36)).alloc (.cells #[.string ⟨#[]⟩] 9)).alloc (.cells #[.int .i64 0] 37):=⟨_,rfl⟩;have X0:=qaa (show Below w.heap.size w W by rw[hW];exact al (al (al Yj _) _) _);have A1:=qaa (show W.heap[p1]? =some (.cells #[.slice ao n cp] 36 (0,0)) by
  rw[hW,hp1];exact(heap_alloc_old _ _ (by simp;omega)).trans ((heap_alloc_old _ _ (by simp)).trans (Yh w _)))
 have A2:=qaa (show W.heap[p2]? =some (.cells #[.string ⟨#[]⟩] 9 (0,0)) by
  rw[hW,hp2,show w.heap.size+1=(w.alloc (.cells #[.slice ao n cp] 36)).heap.size by simp];exact(heap_alloc_old _ _ (by simp)).trans (Yh _ _))
 have A3:=qaa (show W.heap[p3]? =some (.cells #[.int .i64 0] 37 (0,0)) by
  rw[hW,hp3,show w.heap.size+1+1=((w.alloc (.cells #[.slice ao n cp] 36)).alloc (.cells #[.string ⟨#[]⟩] 9)).heap.size by simp];exact Yh _ _)
 have Bd:Hid (p2=w.heap.size+1∧p3=w.heap.size+2):=⟨hp2,hp3⟩;have HC:=qaa (hw W X0.out);clear hw;have q1:W.cell? ⟨p1,0,none⟩=some (.slice ao n cp):=by rw[Ye _ _ _ _ _ _ A1.out];rfl
 go_enter_defers Tryz.func20,Tryz.ntmps20;go_upto_region 1 with fail
 rw[←hp3,←hp2,←hW,←hp1];clear hW hp1 hp2 hp3;go_upto_region 2 with fail
 cases bad with
 |true=>
  simp only[if_true] at HC ⊢;go_wp2_with (go_at_call 42;refine HC.out.mono ?_;rintro e w6 ⟨he',x6⟩;unfold pan at he';subst he';have X6:=qaa x6;clear x6);have E2:=qaa ((X6.out.block p2 (Yd A2.out)).trans A2.out);have E3:=qaa ((X6.out.block p3 (Yd A3.out)).trans A3.out);refine leaves_cons (f:=41) (args:=#[.pointer (some ⟨p2,0,none⟩),.pointer (some ⟨p3,0,none⟩)]) (by simp) (by simp[go_sem]) ?_;refine(qlv 93 0 [] E2.out E3.out).mono ?_;rintro e u' w7 ⟨rfl,rfl,h2,h3,k7⟩;have g2:w7.cell? ⟨p2,0,none⟩=some (.string ⟨#[]⟩):=by rw[Ye _ _ _ _ _ _ h2];rfl
  have g3:w7.cell? ⟨p3,0,none⟩=some (.int .i64 93):=by rw[Ye _ _ _ _ _ _ h3];rfl
  have X7:Below w.heap.size w w7:=Kept.low (bt X0.out X6.out Yi) k7 (fun k hk=>by have:=Bd.out;rcases hk with e|e<;>omega);simp only[settle];exact⟨.tuple #[.string ⟨#[]⟩,.int .i64 93],by simp[results,Tryz.results20,go_sem,g2,g3],rfl,X7⟩
 |false=>
  simp only[Bool.false_eq_true,if_false] at HC ⊢;go_wp2_with (fail);refine HC.out.mono ?_;rintro e w6 ⟨rfl,x6⟩;have X6:=qaa (bt X0.out x6 Yi);have E2:=qaa ((x6.block p2 (Yd A2.out)).trans A2.out);have E3:=qaa ((x6.block p3 (Yd A3.out)).trans A3.out);clear x6 A1 A2 A3 X0 HC q1;have ks:∀(V:World) (b:Nat) (u:Value),Kept (fun k=>k=b) V (V.setCell ⟨b,0,none⟩ u):=fun V b u=>Kept.setCell (F:=fun k=>k=b) (p:=⟨b,0,none⟩) (Kept.refl _ _) rfl u
  have n23:p3≠p2:=by have:=Bd.out;omega
  have c2:w6.cell? ⟨p2,0,none⟩=some (.string ⟨#[]⟩):=by rw[Ye _ _ _ _ _ _ E2.out];rfl
  have f2:=Yf w6 p2 0 _ _ E2.out;have k2:=ks w6 p2 (.string ⟨t.toArray⟩);have F2:Hid ((w6.setCell ⟨p2,0,none⟩ (.string ⟨t.toArray⟩)).heap[p2]? =some (.cells #[.string ⟨t.toArray⟩] 9 (0,0))):=by
   have:=qab E2.out 0 (.string ⟨t.toArray⟩);simpa [Hid] using this
  have F3:=qaa ((k2.block p3 (Yd E3.out) n23).trans E3.out);obtain⟨w7,hw7⟩:∃w7,w7=w6.setCell ⟨p2,0,none⟩ (.string ⟨t.toArray⟩):=⟨_,rfl⟩;rw[←hw7] at F2 F3 k2;have c3:w7.cell? ⟨p3,0,none⟩=some (.int .i64 0):=by rw[Ye _ _ _ _ _ _ F3.out];rfl
  have f3:=Yf w7 p3 0 _ _ F3.out;have k3:=ks w7 p3 (.int .i64 0);have G3:Hid ((w7.setCell ⟨p3,0,none⟩ (.int .i64 0)).heap[p3]? =some (.cells #[.int .i64 0] 37 (0,0))):=by
   have:=qab F3.out 0 (.int .i64 0);simpa [Hid] using this
  have G2:=qaa ((k3.block p2 (Yd F2.out) n23.symm).trans F2.out);obtain⟨w8,hw8⟩:∃w8,w8=w7.setCell ⟨p3,0,none⟩ (.int .i64 0):=⟨_,rfl⟩;rw[←hw8] at G2 G3 k3;have K8:Hid (Kept (fun k=>k=p2∨k=p3) w6 w8):=(k2.mono (fun _ h=>.inl h)).trans (k3.mono (fun _ h=>.inr h));have X8:Hid (Below w.heap.size w w8):=Kept.low X6.out K8.out (fun k hk=>by have:=Bd.out;rcases hk with e|e<;>omega);rw[hw7] at c3 f3;rw[hw7] at hw8;clear hw7 k2 k3 E2 E3 F2 F3 K8 X6;go_wp2;rw[←hw8];clear hw8 c2 f2 c3 f3;refine leaves_cons (f:=41) (args:=#[.pointer (some ⟨p2,0,none⟩),.pointer (some ⟨p3,0,none⟩)]) (by simp) (by simp[go_sem]) ?_;refine(qjn p2 p3 w8).mono ?_;rintro e u' wz ⟨rfl,rfl,xz⟩;have g2:wz.cell? ⟨p2,0,none⟩=some (.string ⟨t.toArray⟩):=by rw[Ye _ _ _ _ _ _ ((xz.block p2 (Yd G2.out)).trans G2.out)];rfl
  have g3:wz.cell? ⟨p3,0,none⟩=some (.int .i64 0):=by rw[Ye _ _ _ _ _ _ ((xz.block p3 (Yd G3.out)).trans G3.out)];rfl
  simp only[settle,Leaves];exact⟨.tuple #[.string ⟨t.toArray⟩,.int .i64 0],by simp[results,Tryz.results20,go_sem,g2,g3],rfl,bt X8.out xz Yi⟩
theorem qkt {w:World} {b0:Nat} {L:List IT} {v:Value} {cs:List Value} {bs:List Nat} {y:WS} (hl:L.length≤100) (hs:∀x∈L,Smp 16 x.c) (h:qcy w b0 L v cs bs) (hx:qsc L ([],true)=some y):
 Calls Tryz.prog 20 #[.agg #[v]] w fun e w'=>e=.returned (.tuple #[.string ⟨y.1.toArray⟩,.int .i64 0])∧Below w.heap.size w w':=by
 obtain⟨ao,cp,hv,_⟩:=qad h.row;exact qks hv false y.1 (fun V x=>qlh hl hs (h.below x) hx)
theorem qlw {w:World} {b0:Nat} {v:Value} (ho:w.ownsRow b0 62 11 v 1 zit.toList):Calls Tryz.prog 20 #[.agg #[v]] w fun e w'=>e=.returned (.tuple #[.string ⟨#[]⟩,.int .i64 93])∧Below w.heap.size w w':=by
 obtain⟨ao,cp,hv,_⟩:=qad ho;exact qks hv true [] (fun V x=>qin (own_below ho x))
theorem qp9 {w:World} {b0:Nat} {L:List IT} {v:Value} {cs:List Value} {bs:List Nat} {y:WS} (hl:L.length≤100) (hs:∀x∈L,Smp 16 x.c) (h:qcy w b0 L v cs bs) (hx:qsc L ([],true)=some y):
 Calls Tryz.prog 22 #[.agg #[v]] w fun e w'=>e=.returned (.bool true)∧Below w.heap.size w w':=by
 obtain⟨ao,cp,hv,_⟩:=qad h.row;subst hv;have XW:=qaa (show Below w.heap.size w (w.alloc (.cells #[.slice ao L.length cp] 36)) from al Yj _);have HB:=qaa (Yh w (.cells #[.slice ao L.length cp] 36));have HP:=qaa (qkt hl hs (h.below XW.out) hx);clear hl hs h hx;generalize L.length=n at *;obtain⟨P,hP⟩:∃P,P=w.heap.size:=⟨_,rfl⟩;go_enter Tryz.func22,Tryz.ntmps22;go_upto_region 1 with fail
 rw[←hP] at HB ⊢;clear hP;generalize w.alloc (.cells #[.slice ao n cp] 36)=W at *;have q0:W.cell? ⟨P,0,none⟩=some (.slice ao n cp):=by rw[Ye _ _ _ _ _ _ HB.out];rfl
 go_wp2_with (go_at_call 20;refine HP.out.mono ?_;rintro e w2 ⟨rfl,x2⟩;have X2:=qaa (bt XW.out x2 Yi);clear x2);go_ret;exact⟨rfl,X2.out⟩
def qti:By:=[108,101,116,32,97,32,61,32,110,111,116,32,40,116,114,117,101,32,111,114,32,98,41,32,97,110,100,32,112,111,114,116,32,105,110,32,123,32,56,48,44,32,49,32,45,32,57,32,125,59]
def qtj:By:=[108,101,116,32,97,32,61,32,59]
def qtk:By:=[108,101,116,32,97,61,110,111,116,40,116,114,117,101,32,111,114,32,98,41,97,110,100,32,112,111,114,116,32,105,110,123,56,48,44,49,45,57,125,59]
def cOr:CT:=.mk 6 [] [] [] [] [] [.mk 1 [] [] [] [] [] [] 13,.mk 3 [98] [] [] [] [] [] 21] 13
def qtl:CT:=.mk 4 [] [] [] [] [] [cOr] 8
def qtm:CT:=.mk 8 [] [] [] [(80,80),(1,9)] [] [] 28
def qse:CT:=.mk 5 [] [] [] [] [] [qtl,qtm] 8
def qjo:List IT:=[⟨1,[97],qse,0⟩]
theorem qsx:qdc qti=.ok qjo:=by kernel_rfl
theorem qsy:qdc qtj=.error (90,8):=by kernel_rfl
theorem qq0:qsc qjo ([],true)=some (qtk,true):=by kernel_rfl
theorem qsz:Smp 16 qse:=by
 simp[Smp,qse,qtl,cOr,qtm,NoM,Dg3,CT.k,CT.nm,CT.tx,CT.pre,CT.sp,CT.ns,CT.kids];intro a b h;omega
theorem qs0:qoz 5 qse:=by
 simp[qoz,qse,qtl,cOr,qtm,NoM,CT.k,CT.nm,CT.tx,CT.pre,CT.sp,CT.ns,CT.kids]
structure AwF (g g6 g7 g8 cp c6 c7 c8:Nat) (a3 a4 a5:Option Addr) (n3 n4 n5:Nat) (V:World):Prop where
 row:∀r,r<8→V.cell? ⟨g,2+r,none⟩=[.int .i64 5,.string ⟨#[]⟩,.string ⟨#[]⟩,.slice a3 0 n3,.slice a4 0 n4,.slice a5 0 n5,.slice (some ⟨g6,0,none⟩) 2 c6,.int .i64 8][r]?
 k0:V.cell? ⟨g6,6,none⟩=some (.slice (some ⟨g7,0,none⟩) 1 c7)
 k1:V.cell? ⟨g6,12,none⟩=some (.slice (some ⟨g8,0,none⟩) 2 c8)
 at_:V.cell? ⟨g7,7,none⟩=some (.int .i64 13)
 s0:V.cell? ⟨g8,2,none⟩=some (.int .i64 1)
 s1:V.cell? ⟨g8,3,none⟩=some (.int .i64 9)
theorem qqa {w:World} {b0:Nat} {v:Value} {cs:List Value} {bs:List Nat} (h:qcy w b0 qjo v cs bs):∃g g6 g7 g8 cp c6 c7 c8 a3 a4 a5 n3 n4 n5,v=.slice (some ⟨g,0,none⟩) 1 cp∧∀V,Below w.heap.size w V→AwF g g6 g7 g8 cp c6 c7 c8 a3 a4 a5 n3 n4 n5 V:=by
 obtain⟨ao,cp,hv,BS⟩:=qad h.row;obtain⟨g,hg⟩:=BS (by decide);subst hg;obtain⟨us,bs1,Dl,hcell⟩:=h.its.get 0 (by decide);have hct:qaj w b0 qse us bs1:=Dl;obtain⟨a3,n3,a4,n4,a5,n5,a6,c6,OI⟩:=hct.eight;rw[OI] at hct;obtain⟨cs6,ks6,Ns,Di,_⟩:=hct.kidsRow;obtain⟨a6',c6',h6,Nt⟩:=qad Ns;obtain⟨g6,Ri⟩:=Nt (by decide);injection h6 with GG _ EF
 subst Ri;subst GG;subst EF;obtain⟨v0,q0,hc0,hx0,_⟩:=Di.get 0 (by decide);obtain⟨v1,q1,hc1,hx1,_⟩:=Di.get 1 (by decide);have hc0':qaj w b0 qtl v0 q0:=hc0;have hc1':qaj w b0 qtm v1 q1:=hc1;obtain⟨_,_,_,_,_,_,a7,c7,hv0⟩:=hc0'.eight;obtain⟨_,_,a8,c8,_,_,_,_,hv1⟩:=hc1'.eight;rw[hv0] at hc0';rw[hv1] at hc1';obtain⟨cs7,ks7,OJ,Rj,_⟩:=hc0'.kidsRow;obtain⟨a7',c7',h7,Nu⟩:=qad OJ;obtain⟨g7,Rk⟩:=Nu (by decide);injection h7 with Rl _ h72
 subst Rk;subst Rl;subst h72;have Nv:=hc1'.spans;obtain⟨a8',c8',h8,Nw⟩:=qad Nv;obtain⟨g8,Rm⟩:=Nw (by decide);injection h8 with Rn _ Ro
 subst Rm;subst Rn;subst Ro;obtain⟨v7,q7,Rp,hx7,_⟩:=Rj.get 0 (by decide);have Ny:qaj w b0 cOr v7 q7:=Rp;obtain⟨_,_,_,_,_,_,_,_,hv7⟩:=Ny.eight;refine⟨g,g6,g7,g8,cp,c6,c7,c8,a3,a4,a5,n3,n4,n5,hv,fun V y=>⟨fun r hr=>?_,?_,?_,?_,?_,?_⟩⟩
 ·have hrow:=own_below h.row y
  rw[hv] at hrow;rw[World.ownsRow.cellAt hrow (2+r) (by show 2+r<1*11;omega)];have:=hcell (2+r) (by omega);rw[Nat.zero_mul,Nat.zero_add] at this;rw[this,OI];rcases (by omega:r=0∨r=1∨r=2∨r=3∨r=4∨r=5∨r=6∨r=7) with rfl|rfl|rfl|rfl|rfl|rfl|rfl|rfl<;>rfl
 ·rw[World.ownsRow.cellAt (own_below Ns y) 6 (by decide)]
  have:=hx0 6 (by decide);rw[hv0] at this;exact this
 ·rw[World.ownsRow.cellAt (own_below Ns y) 12 (by decide)]
  have:=hx1 4 (by decide);rw[hv1] at this;exact this
 ·rw[World.ownsRow.cellAt (own_below OJ y) 7 (by decide)]
  have:=hx7 7 (by decide);rw[hv7] at this;exact this
 ·rw[World.ownsRow.cellAt (own_below Nv y) 2 (by decide)]
  rfl
 ·rw[World.ownsRow.cellAt (own_below Nv y) 3 (by decide)]
  rfl
end Go.Proofs.YtlmhofjiobmodaaGreatDoor

