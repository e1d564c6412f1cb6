/-
  The writer's list, whatever writes its parts; what it does with each span. Condition: that keeps its own contract.
-/
import Derived.Test.YtlmhofjiobmodaaGreatDoorP06
import Derived.Laws.StructEq
set_option maxRecDepth 100000
set_option maxHeartbeats 16000000
namespace Go.Proofs.YtlmhofjiobmodaaGreatDoor
open Go.RowKit Go.Lib
mutual
theorem qaj.ty {w:World} {base:Nat}:∀ {c:CT} {vs:List Value} {bs:List Nat},qaj w base c vs bs→∀k∈bs,∃cs t f,w.heap[k]? =some (.cells cs t f)∧t≠5∧t≠120
 |.mk k nm tx pre sp ns kids p,vs,bs,h=>by
  unfold qaj at h;obtain⟨v3,v4,v5,v6,cs,ks,h1,h2,h3,h4,h5,h6,h7⟩:=h;intro j hj;rw[h7] at hj;simp only[List.mem_append,qbc] at hj;rcases hj with hj|hj|hj|hj|hj
  ·obtain⟨c,hc⟩:=qaw h2 j hj
   exact⟨c,_,_,hc,by decide,by decide⟩
  ·obtain⟨c,hc⟩:=qaw h3 j hj
   exact⟨c,_,_,hc,by decide,by decide⟩
  ·obtain⟨c,hc⟩:=qaw h4 j hj
   exact⟨c,_,_,hc,by decide,by decide⟩
  ·obtain⟨c,hc⟩:=qaw h5 j hj
   exact⟨c,_,_,hc,by decide,by decide⟩
  ·exact qao.ty h6 j hj
theorem qao.ty {w:World} {base:Nat}:∀ {l:List CT} {cs:List Value} {ks:List Nat},qao w base l cs ks→∀k∈ks,∃cs t f,w.heap[k]? =some (.cells cs t f)∧t≠5∧t≠120
 |[],cs,ks,h=>by
  obtain⟨_,rfl⟩:=h;intro k hk;cases hk
 |c::l,cs,ks,h=>by
  obtain⟨vs,bs,cs',ks',h1,h2,h3,h4⟩:=h;intro k hk;rw[h2,List.mem_append] at hk;rcases hk with hk|hk
  ·exact qaj.ty h3 k hk
  ·exact qao.ty h4 k hk
end
theorem qaj.kpo {w w':World} {base b0 wp:Nat} {c:CT} {vs:List Value} {bs:List Nat} {s:By} {pt:Bool} (h:qaj w b0 c vs bs) (hw:WrA w base wp s pt) (k:KpO 5 base wp w w'):qaj w' b0 c vs bs:=by
 refine qaj.kept k c vs bs h (fun j hj hf=>?_);obtain⟨cs,t,f,h1,h2,h3⟩:=qaj.ty h j hj;rcases hf with e|⟨_,c',f',e⟩
 ·exact hw.ne h1 h3 e
 ·rw[h1] at e
  injection e with e
  injection e with _ e _
  exact h2 e
theorem KpO.ownS {base b0 wp size n:Nat} {w w':World} {e:TypeId} {v:Value} {xs:List Value} {s:By} {pt:Bool} (h:KpO 5 base wp w w') (ho:w.ownsRow b0 e size v n xs) (he:e≠5∧e≠120) (hw:WrA w base wp s pt):w'.ownsRow b0 e size v n xs:=
 KpO.own h ho he.1 (fun k hk e'=>by
  obtain⟨c,hc⟩:=qaw ho k hk;exact hw.ne hc he.2 e')
def qmt (part:Nat→WS→Option WS):Nat→Nat→WS→Option WS
 |0,_,s=>some s
 |k+1,i,s=>(if i=0 then some s else qe4 [44] s).bind fun a=>(part i a).bind fun b=>qmt part k (i+1) b
def qsn (part:Nat→WS→Option WS) (n:Nat) (s:WS):Option WS:=if 1≤n∧n≤32 then(qh6 wIn s).bind fun a=>(qe4 [123] a).bind fun b=>(qmt part n 0 b).bind fun c=>qe4 [125] c else none
theorem qo5 {w:World} {base wp:Nat} {s x:WS} {n:Nat} {part:Nat→WS→Option WS} {cl:Nat} {caps:List Value} (I:World→Prop) (hI:∀a b s pt,WrA a base wp s pt→KpO 5 base wp a b→I a→I b) (hE:∀args w,(callFunc cl args).run Tryz.prog w=.ok (.enter cl args) w)
 (hc:∀(W:World) (s x:WS) (i:Nat),i<n→WrA W base wp s.1 s.2→I W→part i s=some x→Calls Tryz.prog cl (.int .i64 (i:Nat)::caps).toArray W (qbz base wp W x))
 (h:WrA w base wp s.1 s.2) (hI0:I w) (hx:qsn part n s=some x):Calls Tryz.prog 167 #[.pointer (some ⟨wp,0,none⟩),.int .i64 (n:Nat),.func (.func cl) #[] caps.toArray] w (qbz base wp w x):=by
 unfold qsn at hx;have hn:1≤n∧n≤32:=Decidable.byContradiction fun h=>by rw[if_neg h] at hx;cases hx
 rw[if_pos hn] at hx;obtain⟨a,ha,hx⟩:=Option.bind_eq_some_iff.1 hx;obtain⟨b,hb,hx⟩:=Option.bind_eq_some_iff.1 hx;obtain⟨c,hcc,hx⟩:=Option.bind_eq_some_iff.1 hx;have HM:=qaa qbn;have h1:(1:Int)≤(n:Int):=by omega
 have h2:(n:Int)≤32:=by omega
 have HW:=qaa (qdi h ha);have HO:=qaa (fun w1 (r:WrA w1 base wp a.1 a.2)=>qbh r hb);have HF:=qaa (fun w1 (r:WrA w1 base wp c.1 c.2)=>qbh r hx);have HC:=qaa hc;have HI:=qaa hI;have I0:=qaa hI0;have R0:=qaa h;have Pe:=qaa hcc;have Ry:=qaa hn;clear hx ha hb hcc hc hI hI0 h hn;go_enter Tryz.func167,Tryz.ntmps167;go_upto_region 1 with(go_at_call 65;refine(HM.out _).mono ?_;rintro e w2 ⟨rfl,hw⟩;have hw2:=hw.symm;clear hw;subst hw2)
 have hwn:(⟨wIn.toArray⟩:ByteArray)=⟨#[105,110]⟩:=rfl;rw[hwn] at HW;go_upto_region 2 with(go_at_call 103;refine HW.out.mono ?_;rintro e w1 ⟨rfl,r1,x1⟩;have R1:=qaa r1;have X1:=qaa x1;clear r1 x1)
 clear HW h1 h2;go_upto_region 3 with(go_at_call 105;refine(HO.out _ R1.out).mono ?_;rintro e w2 ⟨rfl,r2,x2⟩;have R2:=qaa r2;have X2:=qaa (X1.out.trans x2);clear r2 x2)
 have I2:=qaa (HI.out _ _ _ _ R0.out X2.out I0.out);clear HO R1 X1;go_wp2;go_loopg [6,19] (n+1) (fun gg x6 x19 wr=>∃(k i:Nat) (y:WS),x19=.int .i64 (i:Nat)∧i+k=n∧Hid (qmt part k i y=some c)∧Hid (WrA wr base wp y.1 y.2)∧Hid (I wr)∧Hid (KpO 5 base wp w wr)∧k<gg)
 case atStart=>exact⟨n,0,b,rfl,by omega,Pe,R2,I2,X2,by omega⟩
 case round=>
  clear Pe R2 I2 X2 R0 I0;obtain⟨k,i,y,rfl,hik,HP,RR,IR,XR,hg⟩:=hrel;have HG:=qaa hg;have GH:=qaa hik;clear hg hik;cases k with
  |zero=>
   have hlt:¬(i:Int)<(n:Int):=by have:=GH.out;omega
   obtain rfl:y=c:=Option.some.inj HP.out;go_wp2_with (go_at_call 105;refine(HF.out _ RR.out).mono ?_;rintro e w3 ⟨rfl,r3,x3⟩;have R3:=qaa r3;have X3:=qaa (XR.out.trans x3);clear r3 x3);go_end0;exact⟨rfl,R3.out,X3.out⟩
  |succ k=>
   have hlt:(i:Int)<(n:Int):=by have:=GH.out;omega
   obtain⟨a1,ha1,hx1⟩:=Option.bind_eq_some_iff.1 HP.out;obtain⟨b1,hb1,hx1⟩:=Option.bind_eq_some_iff.1 hx1;have J3:=qaa hx1;have fw:IntKind.i64.wrap ((i:Int)+1)=((i+1:Nat):Int):=by have:=Ry.out;have:=GH.out;simp[IntKind.wrap,IntKind.bits,IntKind.signed];omega
   have BU:=qaa (fun w1 (r:WrA w1 base wp a1.1 a1.2) (j:I w1)=>HC.out w1 a1 b1 i (by have:=GH.out;omega) r j hb1);clear hx1 hb1 HP;by_cases h0:i=0
   ·subst h0
    rw[if_pos rfl] at ha1;obtain rfl:=Option.some.inj ha1;clear ha1;have hgt:¬((0:Nat):Int)>0:=by omega
    go_wp2_with (fail);refine(BU.out _ RR.out IR.out).mono ?_;rintro e w3 ⟨rfl,r3,x3⟩;have R3:=qaa r3;have I3:=qaa (HI.out _ _ _ _ RR.out x3 IR.out);have X3:=qaa (XR.out.trans x3);clear r3 x3;go_wp2;go_roundg (k+1)
    case measure=>have:=HG.out;omega
    case rel=>exact⟨k,0+1,b1,by first|rfl|(rw[show wrap64 (((0:Nat):Int)+1)=((0+1:Nat):Int) from fw]),by have:=GH.out;omega,J3,R3,I3,X3,by omega⟩
   ·rw[if_neg h0] at ha1
    have hgt:(0:Int)<(i:Int):=by omega
    have HO:=qaa (fun w1 (r:WrA w1 base wp y.1 y.2)=>qbh r ha1);clear ha1;go_upto_region 8 with(go_at_call 105;refine(HO.out _ RR.out).mono ?_;rintro e w2 ⟨rfl,r2,x2⟩;have R2:=qaa r2;have X2:=qaa x2;clear r2 x2)
    have I2:=qaa (HI.out _ _ _ _ RR.out X2.out IR.out);go_wp2_with (fail);refine(BU.out _ R2.out I2.out).mono ?_;rintro e w3 ⟨rfl,r3,x3⟩;have R3:=qaa r3;have I3:=qaa (HI.out _ _ _ _ R2.out x3 I2.out);have X3:=qaa (XR.out.trans (X2.out.trans x3));clear r3 x3;go_wp2;go_roundg (k+1)
    case measure=>have:=HG.out;omega
    case rel=>exact⟨k,i+1,b1,by first|rfl|(rw[show wrap64 ((i:Int)+1)=((i+1:Nat):Int) from fw]),by have:=GH.out;omega,J3,R3,I3,X3,by omega⟩
theorem qhb (L:List (Int×Int)) (i:Nat) (hi:i<L.length):(prC L)[i*2]? =some (.int .i64 L[i].1)∧(prC L)[i*2+1]? =some (.int .i64 L[i].2):=by
 induction L generalizing i with
 |nil=>simp at hi
 |cons x L ih=>
  have e:prC (x::L)=.int .i64 x.1::.int .i64 x.2::prC L:=rfl;rw[e];cases i with
  |zero=>exact⟨rfl,rfl⟩
  |succ i=>
   obtain⟨h1,h2⟩:=ih i (by simpa using hi);rw[show(i+1)*2=i*2+1+1 by omega];exact⟨h1,h2⟩
def qqw (b0 wp b1 b2:Nat) (vs:Array Value) (v4:Value) (sp:List (Int×Int)) (W:World):Prop:=W.heap[b1]? =some (.cells #[.pointer (some ⟨wp,0,none⟩)] 138 (0,0))∧W.heap[b2]? =some (.cells vs 60 (0,0))∧W.ownsRow b0 68 2 v4 sp.length (prC sp)
theorem qqw.kpo {b0 wp b1 b2 base:Nat} {vs:Array Value} {v4:Value} {sp:List (Int×Int)} {a b:World} {s:By} {pt:Bool} (hw:WrA a base wp s pt) (k:KpO 5 base wp a b) (h:qqw b0 wp b1 b2 vs v4 sp a):qqw b0 wp b1 b2 vs v4 sp b:=
 ⟨k.box h.1 (by decide) (hw.ne h.1 (by decide)),k.box h.2.1 (by decide) (hw.ne h.2.1 (by decide)),k.ownS h.2.2 (by decide) hw⟩
theorem qq8 {W:World} {base wp b0 b1 b2:Nat} {x0 x1 x2 x3 x5 x6 x7 v4:Value} {sp:List (Int×Int)} {i:Nat} {s x:WS} (hi:i<sp.length) (hl:sp.length≤32) (h:WrA W base wp s.1 s.2) (hI:qqw b0 wp b1 b2 #[x0,x1,x2,x3,v4,x5,x6,x7] v4 sp W) (hd:∀z∈sp,Dg3 z.1∧Dg3 z.2) (hx:qsm (sp.getD i (0,0)) s=some x):
 Calls Tryz.prog 170 #[.int .i64 (i:Nat),.pointer (some ⟨b1,0,none⟩),.pointer (some ⟨b2,0,none⟩)] W (qbz base wp W x):=by
 obtain⟨h1,h2,h3⟩:=hI;have hz:sp.getD i (0,0)=sp[i]:=by rw[List.getD_eq_getElem?_getD,List.getElem?_eq_getElem hi];rfl
 rw[hz] at hx;obtain⟨g1,g2⟩:=hd _ (List.getElem_mem hi);obtain⟨a4,c4,hv,BS⟩:=qad h3;obtain⟨g,hg⟩:=BS (by omega);subst hg;subst hv;have hlt:(i:Int)<(sp.length:Int):=by omega
 obtain⟨p1,p2⟩:=qhb sp i hi;have c1:W.cell? ⟨g,i*2,none⟩=some (.int .i64 sp[i].1):=by rw[World.ownsRow.cellAt h3 (i*2) (by omega)];exact p1
 have c2:W.cell? ⟨g,i*2+1,none⟩=some (.int .i64 sp[i].2):=by rw[World.ownsRow.cellAt h3 (i*2+1) (by omega)];exact p2
 have c3:W.cell? ⟨b1,0,none⟩=some (.pointer (some ⟨wp,0,none⟩)):=by rw[Ye _ _ _ _ _ _ h1];rfl
 have c4':W.cell? ⟨b2,4,none⟩=some (.slice (some ⟨g,0,none⟩) sp.length c4):=by rw[Ye _ _ _ _ _ _ h2];rfl
 have HP:=qaa (fun(z:Int×Int) (e:z=sp[i]) (V:World) (y:Below W.heap.size W V)=>qo4 (z:=z) (x:=x) (by rw[e];exact g1) (by rw[e];exact g2) (h.below y) (by rw[e];exact hx));obtain⟨z,hzz⟩:∃z,z=sp[i]:=⟨_,rfl⟩;rw[←hzz] at c1 c2;have HZ:=qaa hzz;have BK:=qaa (HP.out z hzz);have Bb:Hid ((W.drew.cell? ⟨g,i*2,none⟩=some (.int .i64 z.1)∧W.drew.cell? ⟨g,i*2+1,none⟩=some (.int .i64 z.2)∧W.drew.cell? ⟨b1,0,none⟩=some (.pointer (some ⟨wp,0,none⟩))∧W.drew.cell? ⟨b2,4,none⟩=some (.slice (some ⟨g,0,none⟩) sp.length c4))):=⟨c1,c2,c3,c4'⟩;clear h1 h2 h3 hz hx g1 g2 BS p1 p2 c1 c2 c3 c4' h HP hzz HZ hd hi;have XD:Hid (Below W.heap.size W W.drew):=Yj.drew;generalize sp.length=n at *;go_enter Tryz.func170,Tryz.ntmps170;refine qam (S:=fun V=>V.cell? ⟨g,i*2,none⟩=some (.int .i64 z.1)∧V.cell? ⟨g,i*2+1,none⟩=some (.int .i64 z.2)∧V.cell? ⟨b1,0,none⟩=some (.pointer (some ⟨wp,0,none⟩))∧V.cell? ⟨b2,4,none⟩=some (.slice (some ⟨g,0,none⟩) n c4)) 6 (by kernel_rfl) ?_;refine qac.tk 0 rfl 4 Bb.out (fun a b=>by obtain⟨_,_,_,_⟩:=b;go_simp;first|done|rfl) ?_
 try simp only[Act.put,Ya,Yb,Yc]
 refine qac.tk 1 rfl 5 Bb.out (fun a b=>by obtain⟨_,_,_,_⟩:=b;go_simp;first|done|rfl) ?_
 try simp only[Act.put,Ya,Yb,Yc]
 refine qac.tk 2 rfl 6 Bb.out (fun a b=>by obtain⟨_,_,_,_⟩:=b;go_simp;first|done|rfl) ?_
 try simp only[Act.put,Ya,Yb,Yc]
 refine qac.tk 3 rfl 7 Bb.out (fun a b=>by obtain⟨_,_,_,_⟩:=b;go_simp;first|done|rfl) ?_
 try simp only[Act.put,Ya,Yb,Yc]
 refine qac.tk 4 rfl 8 Bb.out (fun a b=>by obtain⟨_,_,_,_⟩:=b;go_simp;first|done|rfl) ?_
 try simp only[Act.put,Ya,Yb,Yc]
 refine qac.tk 5 rfl 9 Bb.out (fun a b=>by obtain⟨_,_,_,_⟩:=b;go_simp;first|done|rfl) ?_
 try simp only[Act.put,Ya,Yb,Yc]
 refine qac.lst rfl fun K hK=>?_
 go_simp;refine(BK.out _ XD.out).mono ?_;rintro e w3 ⟨rfl,r3,x3⟩;refine hK _ _ ?_;have R3:=qaa r3;have X3:=qaa x3;clear hK K r3 x3;go_wp2;go_end0;exact⟨rfl,R3.out,(KpO.of_below XD.out).trans X3.out⟩
theorem qmu:∀(args:Array Value) (w:World),(callFunc 170 args).run Tryz.prog w=.ok (.enter 170 args) w:=fun _ _=>by kernel_rfl
def qsa (c:CT) (s:WS):Option WS:=if c.k=1 then qh6 qg3 s else if c.k=2 then qh6 qd7 s else if c.k=8 then(qh6 qg4 s).bind fun a=>qsn (fun i=>qsm (c.sp.getD i (0,0))) c.sp.length a else none
theorem qi1 {w:World} {base wp b0:Nat} {c:CT} {vs:List Value} {bs:List Nat} {s x:WS} (h:WrA w base wp s.1 s.2) (hc:qaj w b0 c vs bs) (hd:∀z∈c.sp,Dg3 z.1∧Dg3 z.2) (hx:qsa c s=some x):
 Calls Tryz.prog 141 #[.pointer (some ⟨wp,0,none⟩),.agg vs.toArray] w (qbz base wp w x):=by
 have Nr:∀(fn:Fn) (first cap:Array Value) (w:World),(Instr.makeFunc fn first cap).run Tryz.prog w=.ok (.func fn first cap) w:=fun _ _ _ _=>rfl
 have LY:∀v0 v1 v2 v3 v4 v5 v6 v7,vs=[v0,v1,v2,v3,v4,v5,v6,v7]→w.ownsRow b0 68 2 v4 c.sp.length (prC c.sp):=fun v0 v1 v2 v3 v4 v5 v6 v7 e=>by
  subst e;cases c with
  |mk k nm tx pre sp ns kids p=>
   unfold qaj at hc;obtain⟨u3,u4,u5,u6,cs,ks,h1,h2,h3,_⟩:=hc;injection h1 with _ h1
   injection h1 with _ h1
   injection h1 with _ h1
   injection h1 with _ h1
   injection h1 with h1 _
   rw[h1];exact h3
 obtain⟨a3,c3,a4,c4,a5,c5,a6,c6,rfl⟩:=hc.eight;have Lb:=LY _ _ _ _ _ _ _ _ rfl;clear LY hc;obtain⟨W,hW⟩:∃W,W=(w.alloc (.cells #[.pointer (some ⟨wp,0,none⟩)] 138)).alloc (.cells #[.int .i64 c.k,.string ⟨c.nm.toArray⟩,.string ⟨c.tx.toArray⟩,.slice a3 c.pre.length c3,.slice a4 c.sp.length c4,.slice a5 c.ns.length c5,.slice a6 c.kids.length c6,.int .i64 c.p] 60):=⟨_,rfl⟩;obtain⟨b1,hb1⟩:∃b,b=w.heap.size:=⟨_,rfl⟩;obtain⟨b2,hb2⟩:∃b,b=w.heap.size+1:=⟨_,rfl⟩;have XW:=qaa (show Below w.heap.size w W by rw[hW];exact al (al Yj _) _);have B1:=qaa (show W.heap[b1]? =some (.cells #[.pointer (some ⟨wp,0,none⟩)] 138 (0,0)) by
  rw[hW,hb1];exact(heap_alloc_old _ _ (by simp)).trans (Yh w _))
 have B2:=qaa (show W.heap[b2]? =some (.cells #[.int .i64 c.k,.string ⟨c.nm.toArray⟩,.string ⟨c.tx.toArray⟩,.slice a3 c.pre.length c3,.slice a4 c.sp.length c4,.slice a5 c.ns.length c5,.slice a6 c.kids.length c6,.int .i64 c.p] 60 (0,0)) by
  rw[hW,hb2,show w.heap.size+1=(w.alloc (.cells #[.pointer (some ⟨wp,0,none⟩)] 138)).heap.size by simp];exact Yh _ _)
 have RW:=qaa (h.below XW.out);have HI:Hid (qqw b0 wp b1 b2 #[.int .i64 c.k,.string ⟨c.nm.toArray⟩,.string ⟨c.tx.toArray⟩,.slice a3 c.pre.length c3,.slice a4 c.sp.length c4,.slice a5 c.ns.length c5,.slice a6 c.kids.length c6,.int .i64 c.p] (.slice a4 c.sp.length c4) c.sp W):=⟨B1.out,B2.out,own_below Lb XW.out⟩;have HM:=qaa qbn;clear Lb h;have HD:=qaa hd;clear hd;generalize c.nm=cnm at *;generalize c.tx=ctx at *;generalize c.p=cp at *;generalize c.pre.length=npre at *;generalize c.ns.length=nns at *;generalize c.kids.length=nkids at *;have KX:Hid (c.k=1∧qh6 qg3 s=some x∨c.k=2∧qh6 qd7 s=some x∨c.k=8∧(qh6 qg4 s).bind (fun a=>qsn (fun i=>qsm (c.sp.getD i (0,0))) c.sp.length a)=some x):=by
  unfold Hid;unfold qsa at hx;by_cases h1:c.k=1
  ·rw[if_pos h1] at hx;exact .inl ⟨h1,hx⟩
  ·rw[if_neg h1] at hx
   by_cases h2:c.k=2
   ·rw[if_pos h2] at hx;exact .inr (.inl ⟨h2,hx⟩)
   ·rw[if_neg h2] at hx
    by_cases h8:c.k=8
    ·rw[if_pos h8] at hx;exact .inr (.inr ⟨h8,hx⟩)
    ·rw[if_neg h8] at hx;cases hx
 clear hx;generalize c.k=ck at *;generalize c.sp=sp at *;have Ea:∀(k:Nat) (r:By),qeu k=r→(1≤k∧k≤12)→∀V,Calls Tryz.prog 166 #[.int .i64 (k:Nat)] V fun e w'=>e=.returned (.string ⟨r.toArray⟩)∧w'=V:=fun k r e h V=>e▸qh7 k h.1 h.2 V
 rcases KX.out with⟨rfl,hx⟩|⟨rfl,hx⟩|⟨rfl,hx⟩
 ·have HT:=qaa (Ea 1 qg3 rfl (by decide))
  have HW:=qaa (qdi RW.out hx);unfold qg3 at HT HW;have d0:W.cell? ⟨b2,0,none⟩=some (.int .i64 1):=by rw[Ye _ _ _ _ _ _ B2.out];rfl
  have d1:W.cell? ⟨b1,0,none⟩=some (.pointer (some ⟨wp,0,none⟩)):=by rw[Ye _ _ _ _ _ _ B1.out];rfl
  clear Ea KX hx;go_enter Tryz.func141,Tryz.ntmps141;go_upto_region 1 with fail
  rw[←hb2,←hW,←hb1];clear hW hb1 hb2;go_upto_region 4 with(first|(go_at_call 166;refine(HT.out _).mono ?_;rintro e w1 ⟨rfl,hw⟩;have hw2:=hw.symm;clear hw;subst hw2)|(go_at_call 65;refine(HM.out _).mono ?_;rintro e w2 ⟨rfl,hw⟩;have hw2:=hw.symm;clear hw;subst hw2)|(go_at_call 103;refine HW.out.mono ?_;rintro e w3 ⟨rfl,r3,x3⟩;have R3:=qaa r3;have X3:=qaa x3;clear r3 x3))
  have B3:=qaa (X3.out.box B2.out (by decide) (RW.out.ne B2.out (by decide)));have e0:w3.cell? ⟨b2,0,none⟩=some (.int .i64 1):=by rw[Ye _ _ _ _ _ _ B3.out];rfl
  clear d0 d1 HT HW;go_wp2;go_end0;exact⟨rfl,R3.out,(KpO.of_below XW.out).trans X3.out⟩
 ·have HT:=qaa (Ea 2 qd7 rfl (by decide))
  have HW:=qaa (qdi RW.out hx);unfold qd7 at HT HW;have d0:W.cell? ⟨b2,0,none⟩=some (.int .i64 2):=by rw[Ye _ _ _ _ _ _ B2.out];rfl
  have d1:W.cell? ⟨b1,0,none⟩=some (.pointer (some ⟨wp,0,none⟩)):=by rw[Ye _ _ _ _ _ _ B1.out];rfl
  clear Ea KX hx;go_enter Tryz.func141,Tryz.ntmps141;go_upto_region 1 with fail
  rw[←hb2,←hW,←hb1];clear hW hb1 hb2;go_upto_region 4 with(first|(go_at_call 166;refine(HT.out _).mono ?_;rintro e w1 ⟨rfl,hw⟩;have hw2:=hw.symm;clear hw;subst hw2)|(go_at_call 65;refine(HM.out _).mono ?_;rintro e w2 ⟨rfl,hw⟩;have hw2:=hw.symm;clear hw;subst hw2)|(go_at_call 103;refine HW.out.mono ?_;rintro e w3 ⟨rfl,r3,x3⟩;have R3:=qaa r3;have X3:=qaa x3;clear r3 x3))
  have B3:=qaa (X3.out.box B2.out (by decide) (RW.out.ne B2.out (by decide)));have e0:w3.cell? ⟨b2,0,none⟩=some (.int .i64 2):=by rw[Ye _ _ _ _ _ _ B3.out];rfl
  clear d0 d1 HT HW;go_wp2;go_end0;exact⟨rfl,R3.out,(KpO.of_below XW.out).trans X3.out⟩
 ·obtain⟨a,ha,hx⟩:=Option.bind_eq_some_iff.1 hx
  have HT:=qaa (Ea 8 qg4 rfl (by decide));have HW:=qaa (qdi RW.out ha);unfold qg4 at HT HW;have Pf:Hid (∀V,WrA V base wp a.1 a.2→qqw b0 wp b1 b2 #[.int .i64 8,.string ⟨cnm.toArray⟩,.string ⟨ctx.toArray⟩,.slice a3 npre c3,.slice a4 sp.length c4,.slice a5 nns c5,.slice a6 nkids c6,.int .i64 cp] (.slice a4 sp.length c4) sp V→Calls Tryz.prog 167 #[.pointer (some ⟨wp,0,none⟩),.int .i64 (sp.length:Nat),.func (.func 170) #[] #[.pointer (some ⟨b1,0,none⟩),.pointer (some ⟨b2,0,none⟩)]] V (qbz base wp V x)):=fun V r iv=>by
   have hl:sp.length≤32:=by
    unfold qsn at hx;exact(Decidable.byContradiction (p:=1≤sp.length∧sp.length≤32) fun h=>by rw[if_neg h] at hx;cases hx).2
   exact qo5 (caps:=[.pointer (some ⟨b1,0,none⟩),.pointer (some ⟨b2,0,none⟩)]) (qqw b0 wp b1 b2 _ _ sp) (fun _ _ _ _ h1 h2 h3=>h3.kpo h1 h2) qmu (fun W' s' x' i hi q1 q2 q3=>qq8 hi hl q1 q2 HD.out q3) r iv hx
  have d0:W.cell? ⟨b2,0,none⟩=some (.int .i64 8):=by rw[Ye _ _ _ _ _ _ B2.out];rfl
  have d1:W.cell? ⟨b1,0,none⟩=some (.pointer (some ⟨wp,0,none⟩)):=by rw[Ye _ _ _ _ _ _ B1.out];rfl
  clear Ea KX hx ha;go_enter Tryz.func141,Tryz.ntmps141;go_upto_region 1 with fail
  rw[←hb2,←hW,←hb1];clear hW hb1 hb2;go_upto_region 4 with(first|(go_at_call 166;refine(HT.out _).mono ?_;rintro e w1 ⟨rfl,hw⟩;have hw2:=hw.symm;clear hw;subst hw2)|(go_at_call 65;refine(HM.out _).mono ?_;rintro e w2 ⟨rfl,hw⟩;have hw2:=hw.symm;clear hw;subst hw2)|(go_at_call 103;refine HW.out.mono ?_;rintro e w3 ⟨rfl,r3,x3⟩;have R3:=qaa r3;have X3:=qaa x3;clear r3 x3))
  have I3:=qaa (qqw.kpo RW.out X3.out HI.out);have Rz:=qaa (Pf.out _ R3.out I3.out);have e0:w3.cell? ⟨b2,0,none⟩=some (.int .i64 8):=by rw[Ye _ _ _ _ _ _ I3.out.2.1];rfl
  have e4:w3.cell? ⟨b2,4,none⟩=some (.slice a4 sp.length c4):=by rw[Ye _ _ _ _ _ _ I3.out.2.1];rfl
  have e1:w3.cell? ⟨b1,0,none⟩=some (.pointer (some ⟨wp,0,none⟩)):=by rw[Ye _ _ _ _ _ _ I3.out.1];rfl
  clear d0 d1 HT HW Pf;generalize sp.length=nsp at *;go_wp2_with (go_at_call 167;refine Rz.out.mono ?_;rintro e w4 ⟨rfl,r4,x4⟩;have R4:=qaa r4;have X4:=qaa x4;clear r4 x4);go_end0;exact⟨rfl,R4.out,(KpO.of_below XW.out).trans (X3.out.trans X4.out)⟩
theorem qo6:Tryz.prog.fieldsOf 68=#[⟨"Lo",3,0,false, "", "",0⟩,⟨"Hi",3,1,false, "", "",8⟩]:=by kernel_rfl
theorem qts:Tryz.prog.underlying 68=some (.struct (Tryz.prog.fieldsOf 68)):=by kernel_rfl
theorem qso:Tryz.prog.stoodInHeld 68=false:=by kernel_rfl
theorem qtt (a b:Int) (w:World):(Op.equalIn 10000 68 (.agg #[.int .i64 a,.int .i64 b]) (.agg #[.int .i64 a,.int .i64 b])).run Tryz.prog w=.ok true w:=by
 have h3:∀(x:Int) w,(Op.equalIn 9999 3 (.int .i64 x) (.int .i64 x)).run Tryz.prog w=.ok true w:=fun x w=>by rw[show(9999:Nat)=9998+1 from rfl,run_equalIn_int w 9998 3 .i64 .i64 x x Tryz.underlying3];simp
 have p0:∀w,(part 3 #[.int .i64 a,.int .i64 b] 0).run Tryz.prog w=.ok (.int .i64 a) w:=fun w=>by kernel_rfl
 have p1:∀w,(part 3 #[.int .i64 a,.int .i64 b] 1).run Tryz.prog w=.ok (.int .i64 b) w:=fun w=>by kernel_rfl
 rw[show(10000:Nat)=9999+1 from rfl,run_equalIn_struct w 9999 68 _ _ qts qso,qo6];simp[Op.eqFields,Sem.run_bind,p0,p1,h3]
theorem qi2 (a:Option Addr) (c:Nat) (w:World):Calls Tryz.prog 110 #[.slice a 0 c,.slice a 0 c] w fun e w'=>e=.returned (.bool true)∧w'=w:=by
 go_enter Tryz.func110,Tryz.ntmps110;go_wp2;go_loopg [5,13] 2 (fun gg x5 x13 wr=>x13=.int .i64 0∧Hid (wr=w)∧0<gg)
 case atStart=>exact⟨rfl,qaa rfl,by omega⟩
 case round=>
  obtain⟨rfl,HW,hg⟩:=hrel;go_wp2;go_ret;exact⟨rfl,HW.out⟩
theorem qi3 (a:Option Addr) (c:Nat) (w:World):Calls Tryz.prog 112 #[.slice a 0 c,.slice a 0 c] w fun e w'=>e=.returned (.bool true)∧w'=w:=by
 go_enter Tryz.func112,Tryz.ntmps112;go_wp2;go_loopg [5,13] 2 (fun gg x5 x13 wr=>x13=.int .i64 0∧Hid (wr=w)∧0<gg)
 case atStart=>exact⟨rfl,qaa rfl,by omega⟩
 case round=>
  obtain⟨rfl,HW,hg⟩:=hrel;go_wp2;go_ret;exact⟨rfl,HW.out⟩
theorem qi4 {w:World} {b0:Nat} {v:Value} {sp:List (Int×Int)} (hl:sp.length≤1048576) (h:w.ownsRow b0 68 2 v sp.length (prC sp)):Calls Tryz.prog 111 #[v,v] w fun e w'=>e=.returned (.bool true)∧Below w.heap.size w w':=by
 obtain⟨ao,cp,hv,BS⟩:=qad h;subst hv;have HO:=qaa h;have GR:=qaa BS;have GD:=qaa hl;clear h BS hl;go_enter Tryz.func111,Tryz.ntmps111;go_wp2;go_loopg [5,13] (sp.length+1) (fun gg x5 x13 wr=>∃k:Nat,x13=.int .i64 (k:Nat)∧k≤sp.length∧Hid (Below w.heap.size w wr)∧sp.length-k<gg)
 case atStart=>exact⟨0,rfl,by omega,qaa Yj,by omega⟩
 case round=>
  obtain⟨k,rfl,hk,XR,hg⟩:=hrel;have HG:=qaa hg;clear hg;by_cases hlt:k<sp.length
  ·have hlt':(k:Int)<(sp.length:Int):=by omega
   obtain⟨g,rfl⟩:∃g,ao=some ⟨g,0,none⟩:=GR.out (by omega);have ho:=own_below HO.out XR.out;obtain⟨p1,p2⟩:=qhb sp k hlt;have c1:wr.cell? ⟨g,k*2,none⟩=some (.int .i64 sp[k].1):=by rw[World.ownsRow.cellAt ho (k*2) (by omega)];exact p1
   have c2:wr.cell? ⟨g,k*2+1,none⟩=some (.int .i64 sp[k].2):=by rw[World.ownsRow.cellAt ho (k*2+1) (by omega)];exact p2
   obtain⟨z,hzz⟩:∃z,z=sp[k]:=⟨_,rfl⟩;rw[←hzz] at c1 c2;have HK:=qaa hlt;clear hzz p1 p2 ho hlt;have heq:=qtt z.1 z.2;have fw:IntKind.i64.wrap ((k:Int)+1)=((k+1:Nat):Int):=by have:=GD.out;have:=HK.out;simp[IntKind.wrap,IntKind.bits,IntKind.signed];omega
   go_upto_region 6 with fail
   go_quiet (fail);go_wp2;go_roundg (sp.length-(k+1)+1)
   case measure=>have:=HG.out;have:=HK.out;omega
   case rel=>exact⟨k+1,by first|rfl|(rw[show wrap64 ((k:Int)+1)=((k+1:Nat):Int) from fw]),by have:=HK.out;omega,qaa ⟨XR.out.os,XR.out.tape,XR.out.output,XR.out.size,XR.out.block⟩,by omega⟩
  ·have hlt':¬(k:Int)<(sp.length:Int):=by omega
   go_wp2;go_ret;exact⟨rfl,XR.out⟩
theorem qmv {w:World} {base:Nat} {c:CT} {vs:List Value} {bs:List Nat} (hd:dpt c≤16) (hn:dpt c≤1048576) (hw:Nrw 1048576 c) (hc:qaj w base c vs bs):Calls Tryz.prog 146 #[.agg vs.toArray] w fun e w'=>e=.returned (.agg vs.toArray)∧Below w.heap.size w w':=by
 have LZ:=qaa (fun V (x:Below w.heap.size w V)=>qft 1048576 c V base vs bs hn Yi hw (hc.below x));obtain⟨a3,c3,a4,c4,a5,c5,a6,c6,rfl⟩:=hc.eight;obtain⟨ck,hck⟩:∃ck,ck=c.k:=⟨_,rfl⟩;obtain⟨cn,hcn⟩:∃cn,cn=c.nm:=⟨_,rfl⟩;obtain⟨ct,hct⟩:∃ct,ct=c.tx:=⟨_,rfl⟩;obtain⟨cp,hcp⟩:∃cp,cp=c.p:=⟨_,rfl⟩;obtain⟨n3,GA⟩:∃n,n=c.pre.length:=⟨_,rfl⟩;obtain⟨n4,Jo⟩:∃n,n=c.sp.length:=⟨_,rfl⟩;obtain⟨n5,Jp⟩:∃n,n=c.ns.length:=⟨_,rfl⟩;obtain⟨n6,Gg⟩:∃n,n=c.kids.length:=⟨_,rfl⟩;rw[←hck,←hcn,←hct,←hcp,←GA,←Jo,←Jp,←Gg] at LZ ⊢;clear hck hcn hct hcp GA Jo Jp Gg hc hw;generalize dpt c=D at *;have hg:(¬(16:Int)<(D:Int)):=by omega
 obtain⟨W,hW⟩:∃W,W=(w.alloc (.cells #[.int .i64 ck,.string ⟨cn.toArray⟩,.string ⟨ct.toArray⟩,.slice a3 n3 c3,.slice a4 n4 c4,.slice a5 n5 c5,.slice a6 n6 c6,.int .i64 cp] 60)).alloc (.cells #[.int .i64 0,.string ⟨#[]⟩,.string ⟨#[]⟩,.slice none 0 0,.slice none 0 0,.slice none 0 0,.slice none 0 0,.int .i64 0] 60):=⟨_,rfl⟩;have XW:=qaa (show Below w.heap.size w W by rw[hW];exact al (al Yj _) _);obtain⟨P,hP⟩:∃P,P=w.heap.size:=⟨_,rfl⟩;obtain⟨Q,hQ⟩:∃Q,Q=w.heap.size+1:=⟨_,rfl⟩;have HB:=qaa (show W.heap[P]? =some (.cells #[.int .i64 ck,.string ⟨cn.toArray⟩,.string ⟨ct.toArray⟩,.slice a3 n3 c3,.slice a4 n4 c4,.slice a5 n5 c5,.slice a6 n6 c6,.int .i64 cp] 60 (0,0)) by
  rw[hW,hP];exact(heap_alloc_old _ _ (by simp)).trans (Yh w _))
 have HQ:=qaa (show W.heap[Q]? =some (.cells #[.int .i64 0,.string ⟨#[]⟩,.string ⟨#[]⟩,.slice none 0 0,.slice none 0 0,.slice none 0 0,.slice none 0 0,.int .i64 0] 60 (0,0)) by
  rw[hW,hQ,show w.heap.size+1=(w.alloc (.cells #[.int .i64 ck,.string ⟨cn.toArray⟩,.string ⟨ct.toArray⟩,.slice a3 n3 c3,.slice a4 n4 c4,.slice a5 n5 c5,.slice a6 n6 c6,.int .i64 cp] 60)).heap.size by simp];exact Yh _ _)
 have Bq:Hid (w.heap.size≤Q):=by unfold Hid;omega
 go_enter Tryz.func146,Tryz.ntmps146;go_upto_region 1 with fail
 rw[←hQ,←hW,←hP];clear hW hP hQ;obtain⟨q0,q1,q2,q3,q4,q5,q6,q7⟩:=ld8 HB.out;have NM:=qaa (LZ.out W XW.out);go_upto_region 3 with(go_at_call 182;refine NM.out.mono ?_;rintro e w1 ⟨rfl,x1⟩;have X1:=qaa x1;clear x1)
 have HB1:=qaa ((X1.out.block P (Yd HB.out)).trans HB.out);have RF:=qaa ((X1.out.block Q (Yd HQ.out)).trans HQ.out);clear q0 q1 q2 q3 q4 q5 q6 q7;obtain⟨q0,q1,q2,q3,q4,q5,q6,q7⟩:=ld8 HB1.out;obtain⟨⟨_,p0⟩,f0,⟨_,p1⟩,f1,⟨_,p2⟩,f2,⟨_,p3⟩,f3,⟨_,p4⟩,f4,⟨_,p5⟩,f5,⟨_,p6⟩,f6,⟨_,p7⟩,f7,Be,Bf⟩:=st8 RF.out (.int .i64 ck) (.string ⟨cn.toArray⟩) (.string ⟨ct.toArray⟩) (.slice a3 n3 c3) (.slice a4 n4 c4) (.slice a5 n5 c5) (.slice a6 n6 c6) (.int .i64 cp);have Bg:=qaa Be;have XA:=qaa (bt XW.out X1.out Yi);have XK:Hid (Below w.heap.size w ((((((((w1.setCell ⟨Q,0,none⟩ (.int .i64 ck)).setCell ⟨Q,1,none⟩ (.string ⟨cn.toArray⟩)).setCell ⟨Q,2,none⟩ (.string ⟨ct.toArray⟩)).setCell ⟨Q,3,none⟩ (.slice a3 n3 c3)).setCell ⟨Q,4,none⟩ (.slice a4 n4 c4)).setCell ⟨Q,5,none⟩ (.slice a5 n5 c5)).setCell ⟨Q,6,none⟩ (.slice a6 n6 c6)).setCell ⟨Q,7,none⟩ (.int .i64 cp))):=((((((((XA.out.setCell Bq.out _).setCell Bq.out _).setCell Bq.out _).setCell Bq.out _).setCell Bq.out _).setCell Bq.out _).setCell Bq.out _).setCell Bq.out _);clear Be Bf;go_wp2;clear q0 q1 q2 q3 q4 q5 q6 q7 p0 f0 p1 f1 p2 f2 p3 f3 p4 f4 p5 f5 p6 f6 p7 f7;generalize ((((((((w1.setCell ⟨Q,0,none⟩ (.int .i64 ck)).setCell ⟨Q,1,none⟩ (.string ⟨cn.toArray⟩)).setCell ⟨Q,2,none⟩ (.string ⟨ct.toArray⟩)).setCell ⟨Q,3,none⟩ (.slice a3 n3 c3)).setCell ⟨Q,4,none⟩ (.slice a4 n4 c4)).setCell ⟨Q,5,none⟩ (.slice a5 n5 c5)).setCell ⟨Q,6,none⟩ (.slice a6 n6 c6)).setCell ⟨Q,7,none⟩ (.int .i64 cp))=w9 at *;obtain⟨q0,q1,q2,q3,q4,q5,q6,q7⟩:=ld8 Bg.out;refine Yg (by simp[results,Tryz.results146,go_sem,q0,q1,q2,q3,q4,q5,q6,q7];try rfl) rfl ?_;exact⟨rfl,XK.out⟩
theorem qkd {w:World} {base:Nat} {c:CT} {vs:List Value} {bs:List Nat} (hd:¬dpt c≤16) (hn:dpt c≤1048576) (hw:Nrw 1048576 c) (hc:qaj w base c vs bs):Calls Tryz.prog 146 #[.agg vs.toArray] w fun e w'=>e=pan 91 c.p∧Below w.heap.size w w':=by
 have LZ:=qaa (fun V (x:Below w.heap.size w V)=>qft 1048576 c V base vs bs hn Yi hw (hc.below x));obtain⟨a3,c3,a4,c4,a5,c5,a6,c6,rfl⟩:=hc.eight;obtain⟨ck,hck⟩:∃ck,ck=c.k:=⟨_,rfl⟩;obtain⟨cn,hcn⟩:∃cn,cn=c.nm:=⟨_,rfl⟩;obtain⟨ct,hct⟩:∃ct,ct=c.tx:=⟨_,rfl⟩;obtain⟨cp,hcp⟩:∃cp,cp=c.p:=⟨_,rfl⟩;obtain⟨n3,GA⟩:∃n,n=c.pre.length:=⟨_,rfl⟩;obtain⟨n4,Jo⟩:∃n,n=c.sp.length:=⟨_,rfl⟩;obtain⟨n5,Jp⟩:∃n,n=c.ns.length:=⟨_,rfl⟩;obtain⟨n6,Gg⟩:∃n,n=c.kids.length:=⟨_,rfl⟩;rw[←hck,←hcn,←hct,←hcp,←GA,←Jo,←Jp,←Gg] at LZ ⊢;clear hck hcn hct hcp GA Jo Jp Gg hc hw;generalize dpt c=D at *;have hg:((16:Int)<(D:Int)):=by omega
 obtain⟨W,hW⟩:∃W,W=(w.alloc (.cells #[.int .i64 ck,.string ⟨cn.toArray⟩,.string ⟨ct.toArray⟩,.slice a3 n3 c3,.slice a4 n4 c4,.slice a5 n5 c5,.slice a6 n6 c6,.int .i64 cp] 60)).alloc (.cells #[.int .i64 0,.string ⟨#[]⟩,.string ⟨#[]⟩,.slice none 0 0,.slice none 0 0,.slice none 0 0,.slice none 0 0,.int .i64 0] 60):=⟨_,rfl⟩;have XW:=qaa (show Below w.heap.size w W by rw[hW];exact al (al Yj _) _);obtain⟨P,hP⟩:∃P,P=w.heap.size:=⟨_,rfl⟩;obtain⟨Q,hQ⟩:∃Q,Q=w.heap.size+1:=⟨_,rfl⟩;have HB:=qaa (show W.heap[P]? =some (.cells #[.int .i64 ck,.string ⟨cn.toArray⟩,.string ⟨ct.toArray⟩,.slice a3 n3 c3,.slice a4 n4 c4,.slice a5 n5 c5,.slice a6 n6 c6,.int .i64 cp] 60 (0,0)) by
  rw[hW,hP];exact(heap_alloc_old _ _ (by simp)).trans (Yh w _))
 have HQ:=qaa (show W.heap[Q]? =some (.cells #[.int .i64 0,.string ⟨#[]⟩,.string ⟨#[]⟩,.slice none 0 0,.slice none 0 0,.slice none 0 0,.slice none 0 0,.int .i64 0] 60 (0,0)) by
  rw[hW,hQ,show w.heap.size+1=(w.alloc (.cells #[.int .i64 ck,.string ⟨cn.toArray⟩,.string ⟨ct.toArray⟩,.slice a3 n3 c3,.slice a4 n4 c4,.slice a5 n5 c5,.slice a6 n6 c6,.int .i64 cp] 60)).heap.size by simp];exact Yh _ _)
 have Bq:Hid (w.heap.size≤Q):=by unfold Hid;omega
 go_enter Tryz.func146,Tryz.ntmps146;go_upto_region 1 with fail
 rw[←hQ,←hW,←hP];clear hW hP hQ;obtain⟨q0,q1,q2,q3,q4,q5,q6,q7⟩:=ld8 HB.out;have NM:=qaa (LZ.out W XW.out);go_upto_region 2 with(go_at_call 182;refine NM.out.mono ?_;rintro e w1 ⟨rfl,x1⟩;have X1:=qaa x1;clear x1)
 have HB1:=qaa ((X1.out.block P (Yd HB.out)).trans HB.out);clear q0 q1 q2 q3 q4 q5 q6 q7;obtain⟨q0,q1,q2,q3,q4,q5,q6,q7⟩:=ld8 HB1.out;go_wp2;exact⟨rfl,rfl,bt XW.out X1.out Yi⟩
theorem qaq (w:World):Calls Tryz.prog 116 #[] w fun e w'=>e=.returned (.agg #[.string ⟨#[111,114]⟩,.int .i64 6,.int .i64 1,.string ⟨#[97,110,100]⟩,.int .i64 5,.int .i64 2,.string ⟨#[110,111,116]⟩,.int .i64 4,.int .i64 2])∧Below w.heap.size w w':=by
 have HB:=qaa (Yh w (.cells #[.string ⟨#[111,114]⟩,.int .i64 6,.int .i64 1,.string ⟨#[97,110,100]⟩,.int .i64 5,.int .i64 2,.string ⟨#[110,111,116]⟩,.int .i64 4,.int .i64 2] 152));have XW:Hid (Below w.heap.size w (w.alloc (.cells #[.string ⟨#[111,114]⟩,.int .i64 6,.int .i64 1,.string ⟨#[97,110,100]⟩,.int .i64 5,.int .i64 2,.string ⟨#[110,111,116]⟩,.int .i64 4,.int .i64 2] 152))):=al Yj _;go_enter Tryz.func116,Tryz.ntmps116;go_wp2;generalize w.alloc (.cells #[.string ⟨#[111,114]⟩,.int .i64 6,.int .i64 1,.string ⟨#[97,110,100]⟩,.int .i64 5,.int .i64 2,.string ⟨#[110,111,116]⟩,.int .i64 4,.int .i64 2] 152)=w9 at *;have q0:w9.cell? ⟨w.heap.size,0,none⟩=#[.string ⟨#[111,114]⟩,.int .i64 6,.int .i64 1,.string ⟨#[97,110,100]⟩,.int .i64 5,.int .i64 2,.string ⟨#[110,111,116]⟩,.int .i64 4,.int .i64 2][0]? :=by rw[Ye _ _ _ _ _ _ HB.out]
 have q1:w9.cell? ⟨w.heap.size,1,none⟩=#[.string ⟨#[111,114]⟩,.int .i64 6,.int .i64 1,.string ⟨#[97,110,100]⟩,.int .i64 5,.int .i64 2,.string ⟨#[110,111,116]⟩,.int .i64 4,.int .i64 2][1]? :=by rw[Ye _ _ _ _ _ _ HB.out]
 have q2:w9.cell? ⟨w.heap.size,2,none⟩=#[.string ⟨#[111,114]⟩,.int .i64 6,.int .i64 1,.string ⟨#[97,110,100]⟩,.int .i64 5,.int .i64 2,.string ⟨#[110,111,116]⟩,.int .i64 4,.int .i64 2][2]? :=by rw[Ye _ _ _ _ _ _ HB.out]
 have q3:w9.cell? ⟨w.heap.size,3,none⟩=#[.string ⟨#[111,114]⟩,.int .i64 6,.int .i64 1,.string ⟨#[97,110,100]⟩,.int .i64 5,.int .i64 2,.string ⟨#[110,111,116]⟩,.int .i64 4,.int .i64 2][3]? :=by rw[Ye _ _ _ _ _ _ HB.out]
 have q4:w9.cell? ⟨w.heap.size,4,none⟩=#[.string ⟨#[111,114]⟩,.int .i64 6,.int .i64 1,.string ⟨#[97,110,100]⟩,.int .i64 5,.int .i64 2,.string ⟨#[110,111,116]⟩,.int .i64 4,.int .i64 2][4]? :=by rw[Ye _ _ _ _ _ _ HB.out]
 have q5:w9.cell? ⟨w.heap.size,5,none⟩=#[.string ⟨#[111,114]⟩,.int .i64 6,.int .i64 1,.string ⟨#[97,110,100]⟩,.int .i64 5,.int .i64 2,.string ⟨#[110,111,116]⟩,.int .i64 4,.int .i64 2][5]? :=by rw[Ye _ _ _ _ _ _ HB.out]
 have q6:w9.cell? ⟨w.heap.size,6,none⟩=#[.string ⟨#[111,114]⟩,.int .i64 6,.int .i64 1,.string ⟨#[97,110,100]⟩,.int .i64 5,.int .i64 2,.string ⟨#[110,111,116]⟩,.int .i64 4,.int .i64 2][6]? :=by rw[Ye _ _ _ _ _ _ HB.out]
 have q7:w9.cell? ⟨w.heap.size,7,none⟩=#[.string ⟨#[111,114]⟩,.int .i64 6,.int .i64 1,.string ⟨#[97,110,100]⟩,.int .i64 5,.int .i64 2,.string ⟨#[110,111,116]⟩,.int .i64 4,.int .i64 2][7]? :=by rw[Ye _ _ _ _ _ _ HB.out]
 have q8:w9.cell? ⟨w.heap.size,8,none⟩=#[.string ⟨#[111,114]⟩,.int .i64 6,.int .i64 1,.string ⟨#[97,110,100]⟩,.int .i64 5,.int .i64 2,.string ⟨#[110,111,116]⟩,.int .i64 4,.int .i64 2][8]? :=by rw[Ye _ _ _ _ _ _ HB.out]
 simp at q0 q1 q2 q3 q4 q5 q6 q7 q8;refine Yg (by simp[results,Tryz.results116,go_sem,q0,q1,q2,q3,q4,q5,q6,q7,q8];try rfl) rfl ?_;exact⟨rfl,XW.out⟩
end Go.Proofs.YtlmhofjiobmodaaGreatDoor

