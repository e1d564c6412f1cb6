/-
  A test that is being read; what each part of its list adds. Condition: the list is short.
-/
import Derived.Deep.AppendLies
import Derived.Test.YtlmhofjiobmodaaGreatDoorP06
set_option maxRecDepth 100000
set_option maxHeartbeats 16000000
namespace Go.Proofs.YtlmhofjiobmodaaGreatDoor
open Go.RowKit Go.Lib
def qhc (Ts:List Tk) (kind:Int) (c:CT) (t:Tk) (j:Nat):PR CT:=
 if kind=5 then .ok (.mk c.k c.nm c.tx (c.pre++[(t.a,t.b)]) c.sp c.ns c.kids c.p) j
 else if kind=4 then
  if isT Ts 7 [45] j=true then(qa9 Ts 4 (j+1)).bind fun u l=>.ok (.mk c.k c.nm c.tx c.pre (c.sp++[(t.n,u.n)]) c.ns c.kids c.p) l
  else .ok (.mk c.k c.nm c.tx c.pre (c.sp++[(t.n,t.n)]) c.ns c.kids c.p) j
 else .ok (.mk c.k c.nm c.tx c.pre c.sp (c.ns++[t.t]) c.kids c.p) j
theorem qcf (Ts:List Tk) (kind:Int) (c:CT) (i:Nat):qb3 Ts kind c i=(qa9 Ts kind i).bind fun t j=>qhc Ts kind c t j:=rfl
structure TcA (w:World) (base cp:Nat) (c:CT) (v3 v4 v5:Value):Prop where
 blk:w.heap[cp]? =some (.cells #[.int .i64 c.k,.string ⟨c.nm.toArray⟩,.string ⟨c.tx.toArray⟩,v3,v4,v5,.slice none 0 0,.int .i64 c.p] 60 (0,0))
 o3:w.ownsRow base 47 2 v3 c.pre.length (prC c.pre)
 o4:w.ownsRow base 68 2 v4 c.sp.length (prC c.sp)
 o5:w.ownsRow base 9 1 v5 c.ns.length (nsC c.ns)
 kids:c.kids=[]
 bas:base≤cp
def LfF (base rp:Nat) (w:World) (k:Nat):Prop:=k=rp∨(base≤k∧∃cs t f,w.heap[k]? =some (.cells cs t f)∧(t=60∨t=47∨t=68∨t=9))
def LfK (base rp:Nat) (w w':World):Prop:=Kept (LfF base rp w) w w'
theorem LfK.trans {base rp:Nat} {a b c:World} (h:LfK base rp a b) (k:LfK base rp b c):LfK base rp a c:=Kept.trans_new h k (fun i hi hf=>by
 rcases hf with e|⟨h1,cs,t,f,h2,h3⟩
 ·exact .inl e
 ·by_cases hF:LfF base rp a i
  ·exact hF
  ·exact .inr ⟨h1,cs,t,f,(h.block i hi hF).symm.trans h2,h3⟩)
theorem LfK.of_below {base rp:Nat} {a b:World} (h:Below a.heap.size a b):LfK base rp a b:=Kept.of_below h
theorem LfK.of_rp {base rp:Nat} {a b:World} (h:Kept (fun k=>k=rp) a b):LfK base rp a b:=h.mono (fun _ h=>.inl h)
theorem LfK.of_own {base rp:Nat} {a b:World} {size n:Nat} {e:TypeId} {v:Value} {xs:List Value} (ho:a.ownsRow base e size v n xs) (he:e=60∨e=47∨e=68∨e=9) (h:Kept (fun k=>v.ownBlock=some k) a b):LfK base rp a b:=h.mono (fun k hk=>.inr (by
 obtain⟨cs,h1⟩:=qaw ho k hk;exact⟨(World.ownsRow.lt ho k hk).1,cs,e,_,h1,he⟩))
theorem LfK.of_cp {base rp cp:Nat} {a b:World} {cs:Array Value} {f:Nat×Nat} (hc:a.heap[cp]? =some (.cells cs 60 f)) (hb:base≤cp) (h:Kept (fun k=>k=cp) a b):LfK base rp a b:=h.mono (fun k hk=>.inr ⟨by rw[hk];exact hb,cs,60,f,by rw[hk];exact hc,.inl rfl⟩)
theorem LfK.keep {base rp:Nat} {a b:World} (h:LfK base rp a b) {k:Nat} {cs:Array Value} {t:TypeId} {f:Nat×Nat} (hk:a.heap[k]? =some (.cells cs t f)) (hr:k≠rp) (ht:t≠60∧t≠47∧t≠68∧t≠9):b.heap[k]? =some (.cells cs t f):=
 (h.block k (Yd hk) (fun hf=>by
   rcases hf with e|⟨_,cs',t',f',h2,h3⟩
   ·exact hr e
   ·rw[hk] at h2
    simp at h2;rw[←h2.2.1] at h3;rcases h3 with h3|h3|h3|h3
    ·exact ht.1 h3
    ·exact ht.2.1 h3
    ·exact ht.2.2.1 h3
    ·exact ht.2.2.2 h3)).trans hk
theorem LfK.rp {base rp:Nat} {a b:World} (h:LfK base rp a b) (hb:a.heap.size≤base):Kept (fun k=>k=rp) a b:=
 ⟨h.os,h.tape,h.output,h.size,fun k hk hf=>h.block k hk (fun hF=>by
   rcases hF with e|⟨h1,_⟩
   ·exact hf e
   ·omega)⟩
theorem TcA.below {w w':World} {base cp:Nat} {c:CT} {v3 v4 v5:Value} (h:TcA w base cp c v3 v4 v5) (x:Below w.heap.size w w'):TcA w' base cp c v3 v4 v5:=
 ⟨(x.block cp (Yd h.blk)).trans h.blk,own_below h.o3 x,own_below h.o4 x,own_below h.o5 x,h.kids,h.bas⟩
theorem TcA.rp {w w':World} {base cp rp:Nat} {c:CT} {v3 v4 v5:Value} {cs:Array Value} {f:Nat×Nat} (h:TcA w base cp c v3 v4 v5) (hk:Kept (fun k=>k=rp) w w') (hr:w.heap[rp]? =some (.cells cs 73 f)):TcA w' base cp c v3 v4 v5:=by
 have ow:∀ {e:TypeId} {size n:Nat} {v:Value} {xs:List Value},w.ownsRow base e size v n xs→e≠73→w'.ownsRow base e size v n xs:=fun ho he=>qai ho hk (fun k h1 h2=>by
  subst h2;obtain⟨cs',h3⟩:=qaw ho k h1;rw[hr] at h3;simp at h3;exact he h3.2.1.symm)
 exact⟨(hk.block cp (Yd h.blk) (fun e=>by subst e;have:=h.blk;rw[hr] at this;simp at this)).trans h.blk,ow h.o3 (by decide),ow h.o4 (by decide),ow h.o5 (by decide),h.kids,h.bas⟩
theorem qar {w:World} {a b:Nat} {cs cs':Array Value} {t t':TypeId} {f f':Nat×Nat} (h1:w.heap[a]? =some (.cells cs t f)) (h2:w.heap[b]? =some (.cells cs' t' f')) (h:t≠t'):a≠b:=fun e=>by
 subst e;rw[h1] at h2;simp at h2;exact h h2.2.1
theorem qa6 {w w':World} {F:Nat→Prop} {base size n:Nat} {e:TypeId} {v:Value} {xs:List Value} (h:w.ownsRow base e size v n xs) (hk:Kept F w w') (hF:∀k,F k→∃cs t f,w.heap[k]? =some (.cells cs t f)∧t≠e):w'.ownsRow base e size v n xs:=
 qai h hk (fun k h3 h4=>by
  obtain⟨cs,t,f,h5,h6⟩:=hF k h4;obtain⟨cs',h7⟩:=qaw h k h3;rw[h7] at h5;simp at h5;exact h6 h5.2.1.symm)
theorem Tryz.info47n:(Tryz.prog.info? 47).map (fun i=>(i.zero,i.size,i.bytes))=some (some (.agg #[.int .i64 0,.int .i64 0]),2,16):=by kernel_rfl
theorem Tryz.info68n:(Tryz.prog.info? 68).map (fun i=>(i.zero,i.size,i.bytes))=some (some (.agg #[.int .i64 0,.int .i64 0]),2,16):=by kernel_rfl
theorem Tryz.info9n:(Tryz.prog.info? 9).map (fun i=>(i.zero,i.size,i.bytes))=some (some (.string ⟨#[]⟩),1,16):=by kernel_rfl
theorem qo7 {w:World} {base cp vp rbase rp g cap:Nat} {Ts:List Tk} {i:Nat} {c:CT} {v3 v4 v5:Value} (t:Tk) (hT:TcA w base cp c v3 v4 v5) (hv:w.heap[vp]? =some (.cells #[.pointer (some ⟨cp,0,none⟩)] 177 (0,0))) (hn:c.pre.length≤64) (hR:RdA w rbase rp g cap Ts i):
 Calls Tryz.prog 178 #[.agg (tkV t),.pointer (some ⟨vp,0,none⟩)] w fun e w'=>e=.returned (.tuple #[])∧(∃v3',TcA w' base cp (.mk c.k c.nm c.tx (c.pre++[(t.a,t.b)]) c.sp c.ns c.kids c.p) v3' v4 v5)∧RdA w' rbase rp g cap Ts i∧LfK base rp w w':=by
 obtain⟨ie,hie,hz0,hz1,hz2⟩:=info_parts Tryz.info47n;obtain⟨av,cv,hvv,_⟩:=qad hT.o3;subst hvv;obtain⟨W,hW⟩:∃W,W=w.alloc (.cells #[.int .i64 t.k,.string ⟨t.t.toArray⟩,.int .i64 t.n,.int .i64 t.a,.int .i64 t.b,.int .i64 t.p] 49):=⟨_,rfl⟩;have XW:=qaa (show Below w.heap.size w W by rw[hW];exact al Yj _);have HP:=qaa (show W.heap[w.heap.size]? =some (.cells #[.int .i64 t.k,.string ⟨t.t.toArray⟩,.int .i64 t.n,.int .i64 t.a,.int .i64 t.b,.int .i64 t.p] 49 (0,0)) by rw[hW];exact Yh w _);obtain⟨P,hP⟩:∃P,P=w.heap.size:=⟨_,rfl⟩;rw[←hP] at HP;have T1:=qaa (hT.below XW.out);have V1:=qaa ((XW.out.block vp (Yd hv)).trans hv);have R1:=qaa (hR.below XW.out);have HN:=qaa hn;clear hT hv hR hn;unfold tkV;go_enter Tryz.func178,Tryz.ntmps178;go_upto_region 1 with fail
 rw[←hW,←hP];clear hW hP;refine qam (S:=fun V=>V.cell? ⟨vp,0,none⟩=some (.pointer (some ⟨cp,0,none⟩))∧V.cell? ⟨cp,3,none⟩=some (.slice av c.pre.length cv)∧V.cell? ⟨P,3,none⟩=some (.int .i64 t.a)∧V.cell? ⟨P,4,none⟩=some (.int .i64 t.b)) 11 (by kernel_rfl) ?_;have Bb:Hid (Below W.heap.size W W.drew):=Yj.drew;have T2:=qaa (T1.out.below Bb.out);have V2:=qaa ((Bb.out.block vp (Yd V1.out)).trans V1.out);have P2:=qaa ((Bb.out.block P (Yd HP.out)).trans HP.out);have R2:=qaa (R1.out.below Bb.out);have X2:=qaa (bt XW.out Bb.out Yi);clear Bb T1 V1 HP R1 XW;generalize W.drew=wd at *;have SF:Hid (∀V:World,V.heap[vp]? =some (.cells #[.pointer (some ⟨cp,0,none⟩)] 177 (0,0))→V.heap[cp]? =wd.heap[cp]? →V.heap[P]? =some (.cells #[.int .i64 t.k,.string ⟨t.t.toArray⟩,.int .i64 t.n,.int .i64 t.a,.int .i64 t.b,.int .i64 t.p] 49 (0,0))→V.cell? ⟨vp,0,none⟩=some (.pointer (some ⟨cp,0,none⟩))∧V.cell? ⟨cp,3,none⟩=some (.slice av c.pre.length cv)∧V.cell? ⟨P,3,none⟩=some (.int .i64 t.a)∧V.cell? ⟨P,4,none⟩=some (.int .i64 t.b)):=fun V h1 h2 h3=>by
  have h2:=h2.trans T2.out.blk;exact⟨by rw[Ye _ _ _ _ _ _ h1];rfl,by rw[Ye _ _ _ _ _ _ h2];rfl,by rw[Ye _ _ _ _ _ _ h3];rfl,by rw[Ye _ _ _ _ _ _ h3];rfl⟩
 have S2:=qaa (SF.out wd V2.out rfl P2.out);refine qac.tk 0 rfl 3 S2.out (fun a b=>by obtain⟨_,_,_,_⟩:=b;go_simp;first|done|rfl) ?_
 try simp only[Act.put,Ya,Yb,Yc]
 refine qac.tk 1 rfl 4 S2.out (fun a b=>by obtain⟨_,_,_,_⟩:=b;go_simp;first|done|rfl) ?_
 try simp only[Act.put,Ya,Yb,Yc]
 refine qac.tk 2 rfl 5 S2.out (fun a b=>by obtain⟨_,_,_,_⟩:=b;go_simp;first|done|rfl) ?_
 try simp only[Act.put,Ya,Yb,Yc]
 refine qac.tk 3 rfl 6 S2.out (fun a b=>by obtain⟨_,_,_,_⟩:=b;go_simp;first|done|rfl) ?_
 try simp only[Act.put,Ya,Yb,Yc]
 refine qac.tk 4 rfl 7 S2.out (fun a b=>by obtain⟨_,_,_,_⟩:=b;go_simp;first|done|rfl) ?_
 try simp only[Act.put,Ya,Yb,Yc]
 refine qac.tk 5 rfl 8 S2.out (fun a b=>by obtain⟨_,_,_,_⟩:=b;go_simp;first|done|rfl) ?_
 try simp only[Act.put,Ya,Yb,Yc]
 refine qac.tk 6 rfl 9 S2.out (fun a b=>by obtain⟨_,_,_,_⟩:=b;go_simp;first|done|rfl) ?_
 try simp only[Act.put,Ya,Yb,Yc]
 have X6:Hid (Below wd.heap.size wd (wd.alloc (.cells #[.int .i64 t.a,.int .i64 t.b] 47))):=al Yj _;have T6:=qaa (T2.out.below X6.out);have V6:=qaa ((X6.out.block vp (Yd V2.out)).trans V2.out);have P6:=qaa ((X6.out.block P (Yd P2.out)).trans P2.out);have R6:=qaa (R2.out.below X6.out);have S6:=qaa (SF.out _ V6.out (X6.out.block cp (Yd T2.out.blk)) P6.out);have BN:=qaa (World.news_of_block (Yh wd (.cells #[.int .i64 t.a,.int .i64 t.b] 47)));have Gw:Hid (base≤(wd.alloc (.cells #[.int .i64 t.a,.int .i64 t.b] 47)).heap.size):=Nat.le_trans T6.out.bas (Nat.le_of_lt (Yd T6.out.blk));have Mg:=qaa (bt X2.out X6.out Yi);refine qac.stq 7 rfl fun K hK=>?_
 go_simp;refine hK _ _ S6.out ?_;clear hK K
 try simp only[Act.put,Ya,Yb,Yc]
 refine qac.stq 8 rfl fun K hK=>?_
 refine step_append_lies _ (by rfl) (.tmp 7) (.tmp 10) 56 (by rfl) base 47 ie (.agg #[.int .i64 0,.int .i64 0]) 2 16 Tryz.underlying56 hie hz0 hz1 hz2 rfl (by decide) _ c.pre.length (prC c.pre) (by rfl) T6.out.o3 ⟨wd.heap.size,0,none⟩ 1 1 [.int .i64 t.a,.int .i64 t.b] (by rfl) (by rfl) BN.out (by simp[Value.oneCell']) (by decide) (by have:=HN.out;unfold maxLen;omega) (by have:=HN.out;omega) Gw.out _ rfl ?_;intro g6 cap6 w6 h1 h2 h3 h4;have KC:Hid (Kept (fun k=>(Value.slice av c.pre.length cv).ownBlock=some k) (wd.alloc (.cells #[.int .i64 t.a,.int .i64 t.b] 47)) w6):=qae h2;have HC:Hid (∀k,(Value.slice av c.pre.length cv).ownBlock=some k→∃cs ty f,(wd.alloc (.cells #[.int .i64 t.a,.int .i64 t.b] 47)).heap[k]? =some (.cells cs ty f)∧ty=47):=fun k hk=>by
  obtain⟨cs,h5⟩:=qaw T6.out.o3 k hk;exact⟨cs,47,_,h5,rfl⟩
 have kb:∀(k:Nat) (cs:Array Value) (ty:TypeId) (f:Nat×Nat),(wd.alloc (.cells #[.int .i64 t.a,.int .i64 t.b] 47)).heap[k]? =some (.cells cs ty f)→ty≠47→w6.heap[k]? =some (.cells cs ty f):=fun k _ _ _ hk ht=>(KC.out.block k (Yd hk) (fun hf=>by
  obtain⟨cs',t',f',h5,h6⟩:=HC.out k hf;rw[hk] at h5;simp at h5;exact ht (by rw[h5.2.1];exact h6))).trans hk
 have B7:=qaa (kb _ _ _ _ T6.out.blk (by decide));have V7:=qaa (kb _ _ _ _ V6.out (by decide));have P7:=qaa (kb _ _ _ _ P6.out (by decide));have R7:Hid (RdA w6 rbase rp g cap Ts i):=R6.out.kept KC.out (fun hf=>by obtain⟨cs',t',f',h5,h6⟩:=HC.out _ hf;rw[R6.out.blk] at h5;simp at h5;rw[←h5.2.1] at h6;cases h6) (fun hf=>by obtain⟨cs',t',f',h5,h6⟩:=HC.out _ hf;obtain⟨cs2,h7⟩:=qaw R6.out.row g rfl;rw[h7] at h5;simp at h5;rw[←h5.2.1] at h6;cases h6);have ow:∀ {e:TypeId} {size n:Nat} {v:Value} {xs:List Value},(wd.alloc (.cells #[.int .i64 t.a,.int .i64 t.b] 47)).ownsRow base e size v n xs→e≠47→w6.ownsRow base e size v n xs:=fun ho he=>qa6 ho KC.out (fun k hk=>by obtain⟨cs',t',f',h5,h6⟩:=HC.out k hk;exact⟨cs',t',f',h5,by rw[h6];exact fun e=>he e.symm⟩)
 have L7:Hid (LfK base rp w w6):=(LfK.of_below Mg.out).trans (LfK.of_own T6.out.o3 (by decide) KC.out);have S7:=qaa (SF.out w6 V7.out (B7.out.trans T2.out.blk.symm) P7.out);have O7:Hid (w6.ownsRow base 47 2 (.slice (some ⟨g6,0,none⟩) (c.pre.length+1) cap6) (c.pre++[(t.a,t.b)]).length (prC (c.pre++[(t.a,t.b)]))∧w6.ownsRow base 68 2 v4 c.sp.length (prC c.sp)∧w6.ownsRow base 9 1 v5 c.ns.length (nsC c.ns)):=⟨by rw[List.length_append,qfe];exact h1,ow T6.out.o4 (by decide),ow T6.out.o5 (by decide)⟩;have EP:=qaa T6.out.kids;have Jv:=qaa T6.out.bas;refine hK _ _ S7.out ?_;clear hK K h1 h2 h3 h4 kb ow KC HC T6 V6 P6 R6 S6 BN Gw Mg X6;refine qac.tk 9 rfl 12 S7.out (fun a b=>by obtain⟨_,_,_,_⟩:=b;go_simp;first|done|rfl) ?_;refine qac.tk 10 rfl 13 S7.out (fun a b=>by obtain⟨_,_,_,_⟩:=b;go_simp;first|done|rfl) ?_;have c7:=S7.out.2.1;have f7:=Yf w6 cp 3 _ _ B7.out;refine qac.lst rfl fun K hK=>?_
 go_simp;refine hK _ _ ?_;clear hK K c7 f7;have K8:Hid (Kept (fun k=>k=cp) w6 (w6.setCell ⟨cp,3,none⟩ (.slice (some ⟨g6,0,none⟩) (c.pre.length+1) cap6))):=Kept.setCell (F:=fun k=>k=cp) (p:=⟨cp,3,none⟩) (Kept.refl _ _) rfl _;have B8:Hid ((w6.setCell ⟨cp,3,none⟩ (.slice (some ⟨g6,0,none⟩) (c.pre.length+1) cap6)).heap[cp]? =some (.cells #[.int .i64 c.k,.string ⟨c.nm.toArray⟩,.string ⟨c.tx.toArray⟩,.slice (some ⟨g6,0,none⟩) (c.pre.length+1) cap6,v4,v5,.slice none 0 0,.int .i64 c.p] 60 (0,0))):=by
  have:=qab B7.out 3 (.slice (some ⟨g6,0,none⟩) (c.pre.length+1) cap6);simpa [Hid] using this
 go_wp2;go_end0;have ow:∀ {e:TypeId} {size n:Nat} {v:Value} {xs:List Value},w6.ownsRow base e size v n xs→e≠60→(w6.setCell ⟨cp,3,none⟩ (.slice (some ⟨g6,0,none⟩) (c.pre.length+1) cap6)).ownsRow base e size v n xs:=fun ho he=>qa6 ho K8.out (fun k hk=>by have hk:k=cp:=hk;subst hk;exact⟨_,60,_,B7.out,fun e=>he e.symm⟩)
 refine⟨rfl,⟨_,B8.out,ow O7.out.1 (by decide),ow O7.out.2.1 (by decide),ow O7.out.2.2 (by decide),EP.out,Jv.out⟩,R7.out.kept K8.out (fun e=>qar R7.out.blk B7.out (by decide) e) (fun e=>?_),L7.out.trans (LfK.of_cp B7.out Jv.out K8.out)⟩;obtain⟨cs2,h7⟩:=qaw R7.out.row g rfl;exact qar h7 B7.out (by decide) e
theorem qo8 {w:World} {base cp vp rbase rp g cap:Nat} {Ts:List Tk} {i:Nat} {c:CT} {v3 v4 v5:Value} (t:Tk) (hT:TcA w base cp c v3 v4 v5) (hv:w.heap[vp]? =some (.cells #[.pointer (some ⟨cp,0,none⟩)] 177 (0,0))) (hn:c.ns.length≤64) (hR:RdA w rbase rp g cap Ts i):
 Calls Tryz.prog 181 #[.agg (tkV t),.pointer (some ⟨vp,0,none⟩)] w fun e w'=>e=.returned (.tuple #[])∧(∃v5',TcA w' base cp (.mk c.k c.nm c.tx c.pre c.sp (c.ns++[t.t]) c.kids c.p) v3 v4 v5')∧RdA w' rbase rp g cap Ts i∧LfK base rp w w':=by
 obtain⟨ie,hie,hz0,hz1,hz2⟩:=info_parts Tryz.info9n;obtain⟨av,cv,hvv,_⟩:=qad hT.o5;subst hvv;obtain⟨W,hW⟩:∃W,W=w.alloc (.cells #[.int .i64 t.k,.string ⟨t.t.toArray⟩,.int .i64 t.n,.int .i64 t.a,.int .i64 t.b,.int .i64 t.p] 49):=⟨_,rfl⟩;have XW:=qaa (show Below w.heap.size w W by rw[hW];exact al Yj _);have HP:=qaa (show W.heap[w.heap.size]? =some (.cells #[.int .i64 t.k,.string ⟨t.t.toArray⟩,.int .i64 t.n,.int .i64 t.a,.int .i64 t.b,.int .i64 t.p] 49 (0,0)) by rw[hW];exact Yh w _);obtain⟨P,hP⟩:∃P,P=w.heap.size:=⟨_,rfl⟩;rw[←hP] at HP;have T1:=qaa (hT.below XW.out);have V1:=qaa ((XW.out.block vp (Yd hv)).trans hv);have R1:=qaa (hR.below XW.out);have HN:=qaa hn;clear hT hv hR hn;unfold tkV;go_enter Tryz.func181,Tryz.ntmps181;go_upto_region 1 with fail
 rw[←hW,←hP];clear hW hP;refine qam (S:=fun V=>V.cell? ⟨vp,0,none⟩=some (.pointer (some ⟨cp,0,none⟩))∧V.cell? ⟨cp,5,none⟩=some (.slice av c.ns.length cv)∧V.cell? ⟨P,1,none⟩=some (.string ⟨t.t.toArray⟩)∧V.cell? ⟨P,1,none⟩=some (.string ⟨t.t.toArray⟩)) 11 (by kernel_rfl) ?_;have Bb:Hid (Below W.heap.size W W.drew):=Yj.drew;have T2:=qaa (T1.out.below Bb.out);have V2:=qaa ((Bb.out.block vp (Yd V1.out)).trans V1.out);have P2:=qaa ((Bb.out.block P (Yd HP.out)).trans HP.out);have R2:=qaa (R1.out.below Bb.out);have X2:=qaa (bt XW.out Bb.out Yi);clear Bb T1 V1 HP R1 XW;generalize W.drew=wd at *;have SF:Hid (∀V:World,V.heap[vp]? =some (.cells #[.pointer (some ⟨cp,0,none⟩)] 177 (0,0))→V.heap[cp]? =wd.heap[cp]? →V.heap[P]? =some (.cells #[.int .i64 t.k,.string ⟨t.t.toArray⟩,.int .i64 t.n,.int .i64 t.a,.int .i64 t.b,.int .i64 t.p] 49 (0,0))→V.cell? ⟨vp,0,none⟩=some (.pointer (some ⟨cp,0,none⟩))∧V.cell? ⟨cp,5,none⟩=some (.slice av c.ns.length cv)∧V.cell? ⟨P,1,none⟩=some (.string ⟨t.t.toArray⟩)∧V.cell? ⟨P,1,none⟩=some (.string ⟨t.t.toArray⟩)):=fun V h1 h2 h3=>by
  have h2:=h2.trans T2.out.blk;exact⟨by rw[Ye _ _ _ _ _ _ h1];rfl,by rw[Ye _ _ _ _ _ _ h2];rfl,by rw[Ye _ _ _ _ _ _ h3];rfl,by rw[Ye _ _ _ _ _ _ h3];rfl⟩
 have S2:=qaa (SF.out wd V2.out rfl P2.out);refine qac.tk 0 rfl 3 S2.out (fun a b=>by obtain⟨_,_,_,_⟩:=b;go_simp;first|done|rfl) ?_
 try simp only[Act.put,Ya,Yb,Yc]
 refine qac.tk 1 rfl 4 S2.out (fun a b=>by obtain⟨_,_,_,_⟩:=b;go_simp;first|done|rfl) ?_
 try simp only[Act.put,Ya,Yb,Yc]
 refine qac.tk 2 rfl 5 S2.out (fun a b=>by obtain⟨_,_,_,_⟩:=b;go_simp;first|done|rfl) ?_
 try simp only[Act.put,Ya,Yb,Yc]
 refine qac.tk 3 rfl 6 S2.out (fun a b=>by obtain⟨_,_,_,_⟩:=b;go_simp;first|done|rfl) ?_
 try simp only[Act.put,Ya,Yb,Yc]
 refine qac.tk 4 rfl 7 S2.out (fun a b=>by obtain⟨_,_,_,_⟩:=b;go_simp;first|done|rfl) ?_
 try simp only[Act.put,Ya,Yb,Yc]
 refine qac.tk 5 rfl 8 S2.out (fun a b=>by obtain⟨_,_,_,_⟩:=b;go_simp;first|done|rfl) ?_
 try simp only[Act.put,Ya,Yb,Yc]
 refine qac.tk 6 rfl 9 S2.out (fun a b=>by obtain⟨_,_,_,_⟩:=b;go_simp;first|done|rfl) ?_
 try simp only[Act.put,Ya,Yb,Yc]
 have X6:Hid (Below wd.heap.size wd (wd.alloc (.cells #[.string ⟨t.t.toArray⟩] 9))):=al Yj _;have T6:=qaa (T2.out.below X6.out);have V6:=qaa ((X6.out.block vp (Yd V2.out)).trans V2.out);have P6:=qaa ((X6.out.block P (Yd P2.out)).trans P2.out);have R6:=qaa (R2.out.below X6.out);have S6:=qaa (SF.out _ V6.out (X6.out.block cp (Yd T2.out.blk)) P6.out);have BN:=qaa (World.news_of_block (Yh wd (.cells #[.string ⟨t.t.toArray⟩] 9)));have Gw:Hid (base≤(wd.alloc (.cells #[.string ⟨t.t.toArray⟩] 9)).heap.size):=Nat.le_trans T6.out.bas (Nat.le_of_lt (Yd T6.out.blk));have Mg:=qaa (bt X2.out X6.out Yi);refine qac.stq 7 rfl fun K hK=>?_
 go_simp;refine hK _ _ S6.out ?_;clear hK K
 try simp only[Act.put,Ya,Yb,Yc]
 refine qac.stq 8 rfl fun K hK=>?_
 refine step_append_lies _ (by rfl) (.tmp 7) (.tmp 10) 25 (by rfl) base 9 ie (.string ⟨#[]⟩) 1 16 Tryz.underlying25 hie hz0 hz1 hz2 rfl (by decide) _ c.ns.length (nsC c.ns) (by rfl) T6.out.o5 ⟨wd.heap.size,0,none⟩ 1 1 [.string ⟨t.t.toArray⟩] (by rfl) (by rfl) BN.out (by simp[Value.oneCell']) (by decide) (by have:=HN.out;unfold maxLen;omega) (by have:=HN.out;omega) Gw.out _ rfl ?_;intro g6 cap6 w6 h1 h2 h3 h4;have KC:Hid (Kept (fun k=>(Value.slice av c.ns.length cv).ownBlock=some k) (wd.alloc (.cells #[.string ⟨t.t.toArray⟩] 9)) w6):=qae h2;have HC:Hid (∀k,(Value.slice av c.ns.length cv).ownBlock=some k→∃cs ty f,(wd.alloc (.cells #[.string ⟨t.t.toArray⟩] 9)).heap[k]? =some (.cells cs ty f)∧ty=9):=fun k hk=>by
  obtain⟨cs,h5⟩:=qaw T6.out.o5 k hk;exact⟨cs,9,_,h5,rfl⟩
 have kb:∀(k:Nat) (cs:Array Value) (ty:TypeId) (f:Nat×Nat),(wd.alloc (.cells #[.string ⟨t.t.toArray⟩] 9)).heap[k]? =some (.cells cs ty f)→ty≠9→w6.heap[k]? =some (.cells cs ty f):=fun k _ _ _ hk ht=>(KC.out.block k (Yd hk) (fun hf=>by
  obtain⟨cs',t',f',h5,h6⟩:=HC.out k hf;rw[hk] at h5;simp at h5;exact ht (by rw[h5.2.1];exact h6))).trans hk
 have B7:=qaa (kb _ _ _ _ T6.out.blk (by decide));have V7:=qaa (kb _ _ _ _ V6.out (by decide));have P7:=qaa (kb _ _ _ _ P6.out (by decide));have R7:Hid (RdA w6 rbase rp g cap Ts i):=R6.out.kept KC.out (fun hf=>by obtain⟨cs',t',f',h5,h6⟩:=HC.out _ hf;rw[R6.out.blk] at h5;simp at h5;rw[←h5.2.1] at h6;cases h6) (fun hf=>by obtain⟨cs',t',f',h5,h6⟩:=HC.out _ hf;obtain⟨cs2,h7⟩:=qaw R6.out.row g rfl;rw[h7] at h5;simp at h5;rw[←h5.2.1] at h6;cases h6);have ow:∀ {e:TypeId} {size n:Nat} {v:Value} {xs:List Value},(wd.alloc (.cells #[.string ⟨t.t.toArray⟩] 9)).ownsRow base e size v n xs→e≠9→w6.ownsRow base e size v n xs:=fun ho he=>qa6 ho KC.out (fun k hk=>by obtain⟨cs',t',f',h5,h6⟩:=HC.out k hk;exact⟨cs',t',f',h5,by rw[h6];exact fun e=>he e.symm⟩)
 have L7:Hid (LfK base rp w w6):=(LfK.of_below Mg.out).trans (LfK.of_own T6.out.o5 (by decide) KC.out);have S7:=qaa (SF.out w6 V7.out (B7.out.trans T2.out.blk.symm) P7.out);have O7:Hid (w6.ownsRow base 9 1 (.slice (some ⟨g6,0,none⟩) (c.ns.length+1) cap6) (c.ns++[t.t]).length (nsC (c.ns++[t.t]))∧w6.ownsRow base 47 2 v3 c.pre.length (prC c.pre)∧w6.ownsRow base 68 2 v4 c.sp.length (prC c.sp)):=⟨by rw[List.length_append,qka];exact h1,ow T6.out.o3 (by decide),ow T6.out.o4 (by decide)⟩;have EP:=qaa T6.out.kids;have Jv:=qaa T6.out.bas;refine hK _ _ S7.out ?_;clear hK K h1 h2 h3 h4 kb ow KC HC T6 V6 P6 R6 S6 BN Gw Mg X6;refine qac.tk 9 rfl 12 S7.out (fun a b=>by obtain⟨_,_,_,_⟩:=b;go_simp;first|done|rfl) ?_;refine qac.tk 10 rfl 13 S7.out (fun a b=>by obtain⟨_,_,_,_⟩:=b;go_simp;first|done|rfl) ?_;have c7:=S7.out.2.1;have f7:=Yf w6 cp 5 _ _ B7.out;refine qac.lst rfl fun K hK=>?_
 go_simp;refine hK _ _ ?_;clear hK K c7 f7;have K8:Hid (Kept (fun k=>k=cp) w6 (w6.setCell ⟨cp,5,none⟩ (.slice (some ⟨g6,0,none⟩) (c.ns.length+1) cap6))):=Kept.setCell (F:=fun k=>k=cp) (p:=⟨cp,5,none⟩) (Kept.refl _ _) rfl _;have B8:Hid ((w6.setCell ⟨cp,5,none⟩ (.slice (some ⟨g6,0,none⟩) (c.ns.length+1) cap6)).heap[cp]? =some (.cells #[.int .i64 c.k,.string ⟨c.nm.toArray⟩,.string ⟨c.tx.toArray⟩,v3,v4,.slice (some ⟨g6,0,none⟩) (c.ns.length+1) cap6,.slice none 0 0,.int .i64 c.p] 60 (0,0))):=by
  have:=qab B7.out 5 (.slice (some ⟨g6,0,none⟩) (c.ns.length+1) cap6);simpa [Hid] using this
 go_wp2;go_end0;have ow:∀ {e:TypeId} {size n:Nat} {v:Value} {xs:List Value},w6.ownsRow base e size v n xs→e≠60→(w6.setCell ⟨cp,5,none⟩ (.slice (some ⟨g6,0,none⟩) (c.ns.length+1) cap6)).ownsRow base e size v n xs:=fun ho he=>qa6 ho K8.out (fun k hk=>by have hk:k=cp:=hk;subst hk;exact⟨_,60,_,B7.out,fun e=>he e.symm⟩)
 refine⟨rfl,⟨_,B8.out,ow O7.out.2.1 (by decide),ow O7.out.2.2 (by decide),ow O7.out.1 (by decide),EP.out,Jv.out⟩,R7.out.kept K8.out (fun e=>qar R7.out.blk B7.out (by decide) e) (fun e=>?_),L7.out.trans (LfK.of_cp B7.out Jv.out K8.out)⟩;obtain⟨cs2,h7⟩:=qaw R7.out.row g rfl;exact qar h7 B7.out (by decide) e
def qa1 (base cp rbase rp g cap:Nat) (Ts:List Tk) (w:World) (x:PR CT) (e:Ending) (w':World):Prop:=match x with
 |.ok c j=>e=.returned (.tuple #[])∧(∃v3 v4 v5,TcA w' base cp c v3 v4 v5)∧RdA w' rbase rp g cap Ts j∧LfK base rp w w'
 |.bad e0 p=>e=pan e0 p∧LfK base rp w w'
 |.out=>False
def PoR (Ts:List Tk) (n:Int) (i:Nat):Option (Int×Nat):=if isT Ts 7 [45] i=true then(if (tok Ts (i+1)).k=4 then some ((tok Ts (i+1)).n,i+2) else none) else some (n,i)
theorem qmw {Ts:List Tk} {c:CT} {t:Tk} {i j:Nat} {m:Int} (h:PoR Ts t.n i=some (m,j)):qhc Ts 4 c t i=.ok (.mk c.k c.nm c.tx c.pre (c.sp++[(t.n,m)]) c.ns c.kids c.p) j:=by
 unfold PoR at h;unfold qhc qa9;split at h
 ·rename_i h1
  split at h
  ·rename_i h2
   cases h;simp[h1,h2,PR.bind]
  ·cases h
 ·rename_i h1
  cases h;simp[h1]
theorem qmx {Ts:List Tk} {c:CT} {t:Tk} {i:Nat} (h:PoR Ts t.n i=none):qhc Ts 4 c t i=.bad 90 (tok Ts (i+1)).p:=by
 unfold PoR at h;unfold qhc qa9;split at h
 ·rename_i h1
  split at h
  ·cases h
  ·rename_i h2
   simp[h1,h2,PR.bind]
 ·cases h
theorem qla {w:World} {base rp g cap:Nat} {Ts:List Tk} {i j:Nat} {n m:Int} (h:RdA w base rp g cap Ts i) (hp:PoR Ts n i=some (m,j)):Calls Tryz.prog 180 #[.pointer (some ⟨rp,0,none⟩),.int .i64 n] w fun e w'=>e=.returned (.agg #[.int .i64 n,.int .i64 m])∧RdA w' base rp g cap Ts j∧Kept (fun k=>k=rp) w w':=by
 unfold PoR at hp;split at hp
 ·rename_i h1
  split at hp
  ·rename_i h2
   cases hp;exact qmr h n h1 h2
  ·cases hp
 ·rename_i h1
  cases hp;refine(qmq h n (by simpa using h1)).mono ?_;rintro e w' ⟨h2,h3⟩;exact⟨h2,h.below h3,Kept.of_below h3⟩
theorem qlb {w:World} {base rp g cap:Nat} {Ts:List Tk} {i:Nat} {n:Int} (h:RdA w base rp g cap Ts i) (hp:PoR Ts n i=none):Calls Tryz.prog 180 #[.pointer (some ⟨rp,0,none⟩),.int .i64 n] w fun e w'=>e=pan 90 (tok Ts (i+1)).p∧Kept (fun k=>k=rp) w w':=by
 unfold PoR at hp;split at hp
 ·rename_i h1
  split at hp
  ·cases hp
  ·rename_i h2
   exact qms h n h1 h2
 ·cases hp
theorem qq9 {w:World} {base cp vp rv rbase rp g cap:Nat} {Ts:List Tk} {i:Nat} {c:CT} {v3 v4 v5:Value} {m:Int} {j:Nat} (t:Tk) (hp:PoR Ts t.n i=some (m,j)) (hT:TcA w base cp c v3 v4 v5) (hv:w.heap[vp]? =some (.cells #[.pointer (some ⟨cp,0,none⟩)] 177 (0,0))) (BI:w.heap[rv]? =some (.cells #[.pointer (some ⟨rp,0,none⟩)] 102 (0,0))) (hn:c.sp.length≤64) (hR:RdA w rbase rp g cap Ts i):
 Calls Tryz.prog 179 #[.agg (tkV t),.pointer (some ⟨vp,0,none⟩),.pointer (some ⟨rv,0,none⟩)] w fun e w'=>e=.returned (.tuple #[])∧(∃v4',TcA w' base cp (.mk c.k c.nm c.tx c.pre (c.sp++[(t.n,m)]) c.ns c.kids c.p) v3 v4' v5)∧RdA w' rbase rp g cap Ts j∧LfK base rp w w':=by
 obtain⟨ie,hie,hz0,hz1,hz2⟩:=info_parts Tryz.info68n;obtain⟨av,cv,hvv,_⟩:=qad hT.o4;subst hvv;obtain⟨W,hW⟩:∃W,W=w.alloc (.cells #[.int .i64 t.k,.string ⟨t.t.toArray⟩,.int .i64 t.n,.int .i64 t.a,.int .i64 t.b,.int .i64 t.p] 49):=⟨_,rfl⟩;have XW:=qaa (show Below w.heap.size w W by rw[hW];exact al Yj _);have HP:=qaa (show W.heap[w.heap.size]? =some (.cells #[.int .i64 t.k,.string ⟨t.t.toArray⟩,.int .i64 t.n,.int .i64 t.a,.int .i64 t.b,.int .i64 t.p] 49 (0,0)) by rw[hW];exact Yh w _);obtain⟨P,hP⟩:∃P,P=w.heap.size:=⟨_,rfl⟩;rw[←hP] at HP;have T1:=qaa (hT.below XW.out);have V1:=qaa ((XW.out.block vp (Yd hv)).trans hv);have U1:=qaa ((XW.out.block rv (Yd BI)).trans BI);have R1:=qaa (hR.below XW.out);have HN:=qaa hn;have NU:=qaa hp;clear hT hv hR hn BI hp;unfold tkV;go_enter Tryz.func179,Tryz.ntmps179;go_upto_region 1 with fail
 rw[←hW,←hP];clear hW hP;refine qam (S:=fun V=>V.cell? ⟨vp,0,none⟩=some (.pointer (some ⟨cp,0,none⟩))∧V.cell? ⟨cp,4,none⟩=some (.slice av c.sp.length cv)∧V.cell? ⟨P,2,none⟩=some (.int .i64 t.n)∧V.cell? ⟨rv,0,none⟩=some (.pointer (some ⟨rp,0,none⟩))) 13 (by kernel_rfl) ?_;have Bb:Hid (Below W.heap.size W W.drew):=Yj.drew;have T2:=qaa (T1.out.below Bb.out);have V2:=qaa ((Bb.out.block vp (Yd V1.out)).trans V1.out);have U2:=qaa ((Bb.out.block rv (Yd U1.out)).trans U1.out);have P2:=qaa ((Bb.out.block P (Yd HP.out)).trans HP.out);have R2:=qaa (R1.out.below Bb.out);have X2:=qaa (bt XW.out Bb.out Yi);clear Bb T1 V1 U1 HP R1 XW;generalize W.drew=wd at *;have SF:Hid (∀V:World,V.heap[vp]? =some (.cells #[.pointer (some ⟨cp,0,none⟩)] 177 (0,0))→V.heap[cp]? =wd.heap[cp]? →V.heap[P]? =some (.cells #[.int .i64 t.k,.string ⟨t.t.toArray⟩,.int .i64 t.n,.int .i64 t.a,.int .i64 t.b,.int .i64 t.p] 49 (0,0))→V.heap[rv]? =some (.cells #[.pointer (some ⟨rp,0,none⟩)] 102 (0,0))→V.cell? ⟨vp,0,none⟩=some (.pointer (some ⟨cp,0,none⟩))∧V.cell? ⟨cp,4,none⟩=some (.slice av c.sp.length cv)∧V.cell? ⟨P,2,none⟩=some (.int .i64 t.n)∧V.cell? ⟨rv,0,none⟩=some (.pointer (some ⟨rp,0,none⟩))):=fun V h1 h2 h3 h4=>by
  have h2:=h2.trans T2.out.blk;exact⟨by rw[Ye _ _ _ _ _ _ h1];rfl,by rw[Ye _ _ _ _ _ _ h2];rfl,by rw[Ye _ _ _ _ _ _ h3];rfl,by rw[Ye _ _ _ _ _ _ h4];rfl⟩
 have S2:=qaa (SF.out wd V2.out rfl P2.out U2.out);refine qac.tk 0 rfl 4 S2.out (fun a b=>by obtain⟨_,_,_,_⟩:=b;go_simp;first|done|rfl) ?_
 try simp only[Act.put,Ya,Yb,Yc]
 refine qac.tk 1 rfl 5 S2.out (fun a b=>by obtain⟨_,_,_,_⟩:=b;go_simp;first|done|rfl) ?_
 try simp only[Act.put,Ya,Yb,Yc]
 refine qac.tk 2 rfl 6 S2.out (fun a b=>by obtain⟨_,_,_,_⟩:=b;go_simp;first|done|rfl) ?_
 try simp only[Act.put,Ya,Yb,Yc]
 refine qac.tk 3 rfl 7 S2.out (fun a b=>by obtain⟨_,_,_,_⟩:=b;go_simp;first|done|rfl) ?_
 try simp only[Act.put,Ya,Yb,Yc]
 refine qac.tk 4 rfl 8 S2.out (fun a b=>by obtain⟨_,_,_,_⟩:=b;go_simp;first|done|rfl) ?_
 try simp only[Act.put,Ya,Yb,Yc]
 refine qac.tk 5 rfl 9 S2.out (fun a b=>by obtain⟨_,_,_,_⟩:=b;go_simp;first|done|rfl) ?_
 try simp only[Act.put,Ya,Yb,Yc]
 refine qac.tk 6 rfl 10 S2.out (fun a b=>by obtain⟨_,_,_,_⟩:=b;go_simp;first|done|rfl) ?_
 try simp only[Act.put,Ya,Yb,Yc]
 refine qac.tk 7 rfl 11 S2.out (fun a b=>by obtain⟨_,_,_,_⟩:=b;go_simp;first|done|rfl) ?_
 try simp only[Act.put,Ya,Yb,Yc]
 have M9:=qaa (qla R2.out NU.out);refine qac.stq 8 rfl fun K hK=>?_
 go_simp;refine M9.out.mono ?_;rintro e w5 ⟨rfl,r5,k5⟩;have R5:=qaa r5;have T5:=qaa (T2.out.rp k5 R2.out.blk);have ne5:∀(k:Nat) (cs:Array Value) (ty:TypeId) (f:Nat×Nat),wd.heap[k]? =some (.cells cs ty f)→ty≠73→w5.heap[k]? =some (.cells cs ty f):=fun k _ _ _ hk ht=>(k5.block k (Yd hk) (fun e=>by subst e;exact qar hk R2.out.blk ht rfl)).trans hk
 have V5:=qaa (ne5 _ _ _ _ V2.out (by decide));have U5:=qaa (ne5 _ _ _ _ U2.out (by decide));have P5:=qaa (ne5 _ _ _ _ P2.out (by decide));have C5:=qaa ((ne5 _ _ _ _ T2.out.blk (by decide)).trans T2.out.blk.symm);have S5:=qaa (SF.out w5 V5.out C5.out P5.out U5.out);have L5:Hid (LfK base rp w w5):=(LfK.of_below X2.out).trans (LfK.of_rp k5);refine hK _ _ S5.out ?_;clear hK K M9 ne5 r5 k5 V2 U2 P2 R2 S2 X2
 try simp only[Act.put,Ya,Yb,Yc]
 have X6:Hid (Below w5.heap.size w5 (w5.alloc (.cells #[.int .i64 t.n,.int .i64 m] 68))):=al Yj _;have T6:=qaa (T5.out.below X6.out);have V6:=qaa ((X6.out.block vp (Yd V5.out)).trans V5.out);have U6:=qaa ((X6.out.block rv (Yd U5.out)).trans U5.out);have P6:=qaa ((X6.out.block P (Yd P5.out)).trans P5.out);have R6:=qaa (R5.out.below X6.out);have S6:=qaa (SF.out _ V6.out ((X6.out.block cp (Yd T5.out.blk)).trans C5.out) P6.out U6.out);have BN:=qaa (World.news_of_block (Yh w5 (.cells #[.int .i64 t.n,.int .i64 m] 68)));have Gw:Hid (base≤(w5.alloc (.cells #[.int .i64 t.n,.int .i64 m] 68)).heap.size):=Nat.le_trans T6.out.bas (Nat.le_of_lt (Yd T6.out.blk));have L6:Hid (LfK base rp w (w5.alloc (.cells #[.int .i64 t.n,.int .i64 m] 68))):=L5.out.trans (LfK.of_below X6.out);refine qac.stq 9 rfl fun K hK=>?_
 go_simp;refine hK _ _ S6.out ?_;clear hK K
 try simp only[Act.put,Ya,Yb,Yc]
 refine qac.stq 10 rfl fun K hK=>?_
 refine step_append_lies _ (by rfl) (.tmp 8) (.tmp 13) 57 (by rfl) base 68 ie (.agg #[.int .i64 0,.int .i64 0]) 2 16 Tryz.underlying57 hie hz0 hz1 hz2 rfl (by decide) _ c.sp.length (prC c.sp) (by rfl) T6.out.o4 ⟨w5.heap.size,0,none⟩ 1 1 [.int .i64 t.n,.int .i64 m] (by rfl) (by rfl) BN.out (by simp[Value.oneCell']) (by decide) (by have:=HN.out;unfold maxLen;omega) (by have:=HN.out;omega) Gw.out _ rfl ?_;intro g6 cap6 w6 h1 h2 h3 h4;have KC:Hid (Kept (fun k=>(Value.slice av c.sp.length cv).ownBlock=some k) (w5.alloc (.cells #[.int .i64 t.n,.int .i64 m] 68)) w6):=qae h2;have HC:Hid (∀k,(Value.slice av c.sp.length cv).ownBlock=some k→∃cs ty f,(w5.alloc (.cells #[.int .i64 t.n,.int .i64 m] 68)).heap[k]? =some (.cells cs ty f)∧ty=68):=fun k hk=>by
  obtain⟨cs,h5⟩:=qaw T6.out.o4 k hk;exact⟨cs,68,_,h5,rfl⟩
 have kb:∀(k:Nat) (cs:Array Value) (ty:TypeId) (f:Nat×Nat),(w5.alloc (.cells #[.int .i64 t.n,.int .i64 m] 68)).heap[k]? =some (.cells cs ty f)→ty≠68→w6.heap[k]? =some (.cells cs ty f):=fun k _ _ _ hk ht=>(KC.out.block k (Yd hk) (fun hf=>by
  obtain⟨cs',t',f',h5,h6⟩:=HC.out k hf;rw[hk] at h5;simp at h5;exact ht (by rw[h5.2.1];exact h6))).trans hk
 have B7:=qaa (kb _ _ _ _ T6.out.blk (by decide));have V7:=qaa (kb _ _ _ _ V6.out (by decide));have U7:=qaa (kb _ _ _ _ U6.out (by decide));have P7:=qaa (kb _ _ _ _ P6.out (by decide));have R7:Hid (RdA w6 rbase rp g cap Ts j):=R6.out.kept KC.out (fun hf=>by obtain⟨cs',t',f',h5,h6⟩:=HC.out _ hf;rw[R6.out.blk] at h5;simp at h5;rw[←h5.2.1] at h6;cases h6) (fun hf=>by obtain⟨cs',t',f',h5,h6⟩:=HC.out _ hf;obtain⟨cs2,h7⟩:=qaw R6.out.row g rfl;rw[h7] at h5;simp at h5;rw[←h5.2.1] at h6;cases h6);have ow:∀ {e:TypeId} {size n:Nat} {v:Value} {xs:List Value},(w5.alloc (.cells #[.int .i64 t.n,.int .i64 m] 68)).ownsRow base e size v n xs→e≠68→w6.ownsRow base e size v n xs:=fun ho he=>qa6 ho KC.out (fun k hk=>by obtain⟨cs',t',f',h5,h6⟩:=HC.out k hk;exact⟨cs',t',f',h5,by rw[h6];exact fun e=>he e.symm⟩)
 have L7:Hid (LfK base rp w w6):=L6.out.trans (LfK.of_own T6.out.o4 (by decide) KC.out);have S7:=qaa (SF.out w6 V7.out (B7.out.trans T2.out.blk.symm) P7.out U7.out);have O7:Hid (w6.ownsRow base 68 2 (.slice (some ⟨g6,0,none⟩) (c.sp.length+1) cap6) (c.sp++[(t.n,m)]).length (prC (c.sp++[(t.n,m)]))∧w6.ownsRow base 47 2 v3 c.pre.length (prC c.pre)∧w6.ownsRow base 9 1 v5 c.ns.length (nsC c.ns)):=⟨by rw[List.length_append,qfe];exact h1,ow T6.out.o3 (by decide),ow T6.out.o5 (by decide)⟩;have EP:=qaa T6.out.kids;have Jv:=qaa T6.out.bas;refine hK _ _ S7.out ?_;clear hK K h1 h2 h3 h4 kb ow KC HC T6 V6 U6 P6 R6 S6 BN Gw L6 X6 T5 V5 U5 P5 R5 S5 L5;refine qac.tk 11 rfl 15 S7.out (fun a b=>by obtain⟨_,_,_,_⟩:=b;go_simp;first|done|rfl) ?_;refine qac.tk 12 rfl 16 S7.out (fun a b=>by obtain⟨_,_,_,_⟩:=b;go_simp;first|done|rfl) ?_;have c7:=S7.out.2.1;have f7:=Yf w6 cp 4 _ _ B7.out;refine qac.lst rfl fun K hK=>?_
 go_simp;refine hK _ _ ?_;clear hK K c7 f7;have K8:Hid (Kept (fun k=>k=cp) w6 (w6.setCell ⟨cp,4,none⟩ (.slice (some ⟨g6,0,none⟩) (c.sp.length+1) cap6))):=Kept.setCell (F:=fun k=>k=cp) (p:=⟨cp,4,none⟩) (Kept.refl _ _) rfl _;have B8:Hid ((w6.setCell ⟨cp,4,none⟩ (.slice (some ⟨g6,0,none⟩) (c.sp.length+1) cap6)).heap[cp]? =some (.cells #[.int .i64 c.k,.string ⟨c.nm.toArray⟩,.string ⟨c.tx.toArray⟩,v3,.slice (some ⟨g6,0,none⟩) (c.sp.length+1) cap6,v5,.slice none 0 0,.int .i64 c.p] 60 (0,0))):=by
  have:=qab B7.out 4 (.slice (some ⟨g6,0,none⟩) (c.sp.length+1) cap6);simpa [Hid] using this
 go_wp2;go_end0;have ow:∀ {e:TypeId} {size n:Nat} {v:Value} {xs:List Value},w6.ownsRow base e size v n xs→e≠60→(w6.setCell ⟨cp,4,none⟩ (.slice (some ⟨g6,0,none⟩) (c.sp.length+1) cap6)).ownsRow base e size v n xs:=fun ho he=>qa6 ho K8.out (fun k hk=>by have hk:k=cp:=hk;subst hk;exact⟨_,60,_,B7.out,fun e=>he e.symm⟩)
 refine⟨rfl,⟨_,B8.out,ow O7.out.2.1 (by decide),ow O7.out.1 (by decide),ow O7.out.2.2 (by decide),EP.out,Jv.out⟩,R7.out.kept K8.out (fun e=>qar R7.out.blk B7.out (by decide) e) (fun e=>?_),L7.out.trans (LfK.of_cp B7.out Jv.out K8.out)⟩;obtain⟨cs2,h7⟩:=qaw R7.out.row g rfl;exact qar h7 B7.out (by decide) e
theorem qo9 {w:World} {base cp vp rv rbase rp g cap:Nat} {Ts:List Tk} {i:Nat} {c:CT} {v3 v4 v5:Value} (t:Tk) (hp:PoR Ts t.n i=none) (hT:TcA w base cp c v3 v4 v5) (hv:w.heap[vp]? =some (.cells #[.pointer (some ⟨cp,0,none⟩)] 177 (0,0))) (BI:w.heap[rv]? =some (.cells #[.pointer (some ⟨rp,0,none⟩)] 102 (0,0))) (hn:c.sp.length≤64) (hR:RdA w rbase rp g cap Ts i):
 Calls Tryz.prog 179 #[.agg (tkV t),.pointer (some ⟨vp,0,none⟩),.pointer (some ⟨rv,0,none⟩)] w fun e w'=>e=pan 90 (tok Ts (i+1)).p∧LfK base rp w w':=by
 obtain⟨ie,hie,hz0,hz1,hz2⟩:=info_parts Tryz.info68n;obtain⟨av,cv,hvv,_⟩:=qad hT.o4;subst hvv;obtain⟨W,hW⟩:∃W,W=w.alloc (.cells #[.int .i64 t.k,.string ⟨t.t.toArray⟩,.int .i64 t.n,.int .i64 t.a,.int .i64 t.b,.int .i64 t.p] 49):=⟨_,rfl⟩;have XW:=qaa (show Below w.heap.size w W by rw[hW];exact al Yj _);have HP:=qaa (show W.heap[w.heap.size]? =some (.cells #[.int .i64 t.k,.string ⟨t.t.toArray⟩,.int .i64 t.n,.int .i64 t.a,.int .i64 t.b,.int .i64 t.p] 49 (0,0)) by rw[hW];exact Yh w _);obtain⟨P,hP⟩:∃P,P=w.heap.size:=⟨_,rfl⟩;rw[←hP] at HP;have T1:=qaa (hT.below XW.out);have V1:=qaa ((XW.out.block vp (Yd hv)).trans hv);have U1:=qaa ((XW.out.block rv (Yd BI)).trans BI);have R1:=qaa (hR.below XW.out);have HN:=qaa hn;have NU:=qaa hp;clear hT hv hR hn BI hp;unfold tkV;go_enter Tryz.func179,Tryz.ntmps179;go_upto_region 1 with fail
 rw[←hW,←hP];clear hW hP;refine qam (S:=fun V=>V.cell? ⟨vp,0,none⟩=some (.pointer (some ⟨cp,0,none⟩))∧V.cell? ⟨cp,4,none⟩=some (.slice av c.sp.length cv)∧V.cell? ⟨P,2,none⟩=some (.int .i64 t.n)∧V.cell? ⟨rv,0,none⟩=some (.pointer (some ⟨rp,0,none⟩))) 13 (by kernel_rfl) ?_;have Bb:Hid (Below W.heap.size W W.drew):=Yj.drew;have T2:=qaa (T1.out.below Bb.out);have V2:=qaa ((Bb.out.block vp (Yd V1.out)).trans V1.out);have U2:=qaa ((Bb.out.block rv (Yd U1.out)).trans U1.out);have P2:=qaa ((Bb.out.block P (Yd HP.out)).trans HP.out);have R2:=qaa (R1.out.below Bb.out);have X2:=qaa (bt XW.out Bb.out Yi);clear Bb T1 V1 U1 HP R1 XW;generalize W.drew=wd at *;have SF:Hid (∀V:World,V.heap[vp]? =some (.cells #[.pointer (some ⟨cp,0,none⟩)] 177 (0,0))→V.heap[cp]? =wd.heap[cp]? →V.heap[P]? =some (.cells #[.int .i64 t.k,.string ⟨t.t.toArray⟩,.int .i64 t.n,.int .i64 t.a,.int .i64 t.b,.int .i64 t.p] 49 (0,0))→V.heap[rv]? =some (.cells #[.pointer (some ⟨rp,0,none⟩)] 102 (0,0))→V.cell? ⟨vp,0,none⟩=some (.pointer (some ⟨cp,0,none⟩))∧V.cell? ⟨cp,4,none⟩=some (.slice av c.sp.length cv)∧V.cell? ⟨P,2,none⟩=some (.int .i64 t.n)∧V.cell? ⟨rv,0,none⟩=some (.pointer (some ⟨rp,0,none⟩))):=fun V h1 h2 h3 h4=>by
  have h2:=h2.trans T2.out.blk;exact⟨by rw[Ye _ _ _ _ _ _ h1];rfl,by rw[Ye _ _ _ _ _ _ h2];rfl,by rw[Ye _ _ _ _ _ _ h3];rfl,by rw[Ye _ _ _ _ _ _ h4];rfl⟩
 have S2:=qaa (SF.out wd V2.out rfl P2.out U2.out);refine qac.tk 0 rfl 4 S2.out (fun a b=>by obtain⟨_,_,_,_⟩:=b;go_simp;first|done|rfl) ?_
 try simp only[Act.put,Ya,Yb,Yc]
 refine qac.tk 1 rfl 5 S2.out (fun a b=>by obtain⟨_,_,_,_⟩:=b;go_simp;first|done|rfl) ?_
 try simp only[Act.put,Ya,Yb,Yc]
 refine qac.tk 2 rfl 6 S2.out (fun a b=>by obtain⟨_,_,_,_⟩:=b;go_simp;first|done|rfl) ?_
 try simp only[Act.put,Ya,Yb,Yc]
 refine qac.tk 3 rfl 7 S2.out (fun a b=>by obtain⟨_,_,_,_⟩:=b;go_simp;first|done|rfl) ?_
 try simp only[Act.put,Ya,Yb,Yc]
 refine qac.tk 4 rfl 8 S2.out (fun a b=>by obtain⟨_,_,_,_⟩:=b;go_simp;first|done|rfl) ?_
 try simp only[Act.put,Ya,Yb,Yc]
 refine qac.tk 5 rfl 9 S2.out (fun a b=>by obtain⟨_,_,_,_⟩:=b;go_simp;first|done|rfl) ?_
 try simp only[Act.put,Ya,Yb,Yc]
 refine qac.tk 6 rfl 10 S2.out (fun a b=>by obtain⟨_,_,_,_⟩:=b;go_simp;first|done|rfl) ?_
 try simp only[Act.put,Ya,Yb,Yc]
 refine qac.tk 7 rfl 11 S2.out (fun a b=>by obtain⟨_,_,_,_⟩:=b;go_simp;first|done|rfl) ?_
 try simp only[Act.put,Ya,Yb,Yc]
 have M9:=qaa (qlb R2.out NU.out);refine qac.stq 8 rfl fun K hK=>?_
 go_simp;refine M9.out.mono ?_;rintro e w5 ⟨he,k5⟩;unfold pan at he;subst he;exact⟨rfl,rfl,(LfK.of_below X2.out).trans (LfK.of_rp k5)⟩
end Go.Proofs.YtlmhofjiobmodaaGreatDoor

