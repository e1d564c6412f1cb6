/-
  The code's reached by its contract. Condition: the automaton may be.
-/
import Derived.Deep.CutBlock
import Derived.Deep.AppendLies
import Derived.Deep.RegionHeld3
import Derived.Test.YtdgoilkgplnhfaaGreatJ07
namespace Go.Proofs.YtdgoilkgplnhfaaGreat
open Go.RowKit Go.Lib Go.Maps
set_option maxRecDepth 100000 in
theorem qfk (bs:By) (xb b:Nat) (w:World) (hb:b<bs.length) (hc:w.cell? ⟨xb,0,none⟩=some (.string ⟨bs.toArray⟩)):
 Calls Tryz.prog 112 #[.int .i64 (b:Nat),.pointer (some ⟨xb,0,none⟩)] w fun e w'=>e=.returned (.int .u8 (((bs.getD b 0).toNat:Nat):Int))∧Below w.heap.size w w':=by
 obtain⟨y,hy⟩:∃y,bs[b]=y:=⟨_,rfl⟩;have hg:∀hk,(⟨bs.toArray⟩:ByteArray)[b]'hk=y:=fun _=>hy
 have e:bs.getD b 0=y:=by rw[List.getD_eq_getElem?_getD,List.getElem?_eq_getElem hb,hy];rfl
 have hlb:(b:Int)<(bs.length:Int):=by omega
 rw[e];clear e hy;go_enter Tryz.func112,Tryz.ntmps112;go_wp2;go_ret;exact⟨rfl,Below.refl _ _⟩
theorem Rws.two {w:World} {base:Nat} (_:Rws w base []) {v1 v2:Value} {L1 L2:List Nat} (h1:qan w base v1 L1) (h2:qan w base v2 L2) (ha:∀b,v1.ownBlock=some b→¬v2.ownBlock=some b):Rws w base [(v1,L1),(v2,L2)]:=by
 refine⟨fun j hj=>?_,fun j hj k hk hne b hb hb2=>?_⟩
 ·match j,hj with
  |0,_=>exact h1
  |1,_=>exact h2
 ·match j,hj,k,hk with
  |0,_,0,_=>exact hne rfl
  |0,_,1,_=>exact ha b hb hb2
  |1,_,0,_=>exact ha b hb2 hb
  |1,_,1,_=>exact hne rfl
theorem qbf.lits {f:Nat→Nat} {N M:Nat} {num fst:Nat→Nat} {g:Nat→Lit} (h:qbf g N num fst M) (hi:∀b c,g b=g c→f b=f c) (hc:∀b c,f b=f c→g b=g c):qbf f N num fst M:=
 ⟨h.numlt,fun i hi'=>hi _ _ (h.lk i hi'),h.fstlt,h.numfst,fun k hk i hi' e=>h.first k hk i hi' (hc _ _ e),h.inc⟩
theorem qpe (y:UInt8):(Lit.int .u8 ((y.toNat:Nat):Int)).wf=true:=by
 have h:y.toNat<256:=y.toNat_lt;simp[Lit.wf,IntKind.min,IntKind.max,IntKind.signed,IntKind.bits];omega
theorem qgo (w:World) (base n:Nat) (hb:base≤w.heap.size):qan (w.alloc (.cells #[.int .i64 (n:Nat)] 3)) base (.slice (some ⟨w.heap.size,0,none⟩) 1 1) [n]:=
 ⟨rfl,.inr ⟨w.heap.size,1,#[.int .i64 (n:Nat)],rfl,hb,heap_alloc_new _ _,Nat.le_refl _,by decide,rfl,rfl⟩⟩
theorem qmt {bs:By} {NX OU:List Nat} {w0 w3 w4 w5 w7:World} {base gn g7 c7:Nat} {cv fv:Value} {col fst:List Nat} (hR:Rws w3 base [(cv,col),(fv,fst)]) (hb:base≤w3.heap.size) (x3:Below base w0 w3) (h0:0<OU.length) (hfl:fst.length≤256) (hbw:base≤w0.heap.size)
 (m1:w4.ownsRow base 4 1 (.slice (some ⟨w3.heap.size,0,none⟩) OU.length OU.length) OU.length (madeCells (Value.bool false).cells (OU.length*1)).toList) (m2:w3.grownBy w4 none)
 (n1:w5.ownsRow base 3 1 (.slice (some ⟨gn,0,none⟩) OU.length OU.length) OU.length (madeCells (Value.int .i64 0).cells (OU.length*1)).toList) (n2:(w4.setCell ⟨w3.heap.size,0,none⟩ (.bool true)).grownBy w5 none) (hgn:(w4.setCell ⟨w3.heap.size,0,none⟩ (.bool true)).heap.size=gn)
 (p1:w7.ownsRow base 3 1 (.slice (some ⟨g7,0,none⟩) 0 c7) 0 []) (p2:(w5.alloc (.cells #[.int .i64 0] 3)).grownBy w7 none) (hg7:(w5.alloc (.cells #[.int .i64 0] 3)).heap.size≤g7):
 RcM bs NX OU base w0 cv fv (.slice (some ⟨gn,0,none⟩) OU.length OU.length) (.slice (some ⟨w3.heap.size,0,none⟩) OU.length OU.length) col fst (.slice (some ⟨w5.heap.size,0,none⟩) 1 1) (.slice (some ⟨g7,0,none⟩) 0 c7) (.slice none 0 0) [0] [] [] 0 0 w7:=by
 have x4:=qad m2;have o4:qfj w4 base (.slice (some ⟨w3.heap.size,0,none⟩) OU.length OU.length) (List.replicate OU.length false):=by unfold qfj;rw[qcz] at m1;simpa using m1
 obtain⟨o5,k5⟩:=o4.store 0 true;have r4:=hR.below x4;have r5:=r4.kept k5 (fun j hj b hb' e=>qa5 (show w4.ownsRow base 3 1 _ _ (qab _) from r4.own j hj) o4 (by decide) b hb' (by rw[e];rfl));have x5:=qad n2;have o6:qan w5 base (.slice (some ⟨gn,0,none⟩) OU.length OU.length) (List.replicate OU.length 0):=by unfold qan;rw[qbs] at n1;simpa using n1
 have r6:=r5.cons x5 o6 (fun b hb'=>by have e:gn=b:=Option.some.inj hb';omega);have b5:Below base w0 w5:=((x3.trans (x4.mono hb)).setCell hb _).trans (x5.mono (by rw[hgn];have:=(World.ownsRow.lt n1 gn rfl).1;exact this));have hs5:base≤w5.heap.size:=Nat.le_trans hbw b5.size;have x6:Below w5.heap.size w5 (w5.alloc (.cells #[.int .i64 0] 3)):=al (Below.refl _ _) _;have r7:=r6.cons x6 (qgo w5 base 0 hs5) (fun b hb'=>by have e:w5.heap.size=b:=Option.some.inj hb';omega);have x7:=qad p2;have o8:qan w7 base (.slice (some ⟨g7,0,none⟩) 0 c7) []:=p1;have r8:=r7.cons x7 o8 (fun b hb'=>by have e:g7=b:=Option.some.inj hb';omega);have r9:=r8.cons (Below.refl _ _) (qan.nil w7 base) (fun b hb'=>by cases hb');have om:qfj w7 base (.slice (some ⟨w3.heap.size,0,none⟩) OU.length OU.length) ((List.replicate OU.length false).set 0 true):=own_below (own_below (own_below o5 x5) x6) x7;exact RcM.start r9 om h0 rfl rfl ((b5.trans (x6.mono hs5)).trans (x7.mono (Nat.le_trans hs5 x6.size))) hfl
section
variable {bs:By} {NX OU:List Nat} {base:Nat} {w0 w w':World} {cv fv nv mv sv xv ov:Value} {col fst St X O:List Nat} {i j:Nat}
theorem qan.shape {v:Value} {L:List Nat} (h:qan w base v L):∃ao cap,v=.slice ao L.length cap:=by
 obtain⟨ao,cap,e,_⟩:=qag (show w.ownsRow base 3 1 v L.length (qab L) from h);exact⟨ao,cap,e⟩
theorem qan.gcell {ao:Option Addr} {cap:Nat} {L:List Nat} (h:qan w base (.slice ao L.length cap) L) {k:Nat} (hk:k<L.length):∃g,ao=some ⟨g,0,none⟩∧w.cell? ⟨g,k,none⟩=some (.int .i64 ((gN L k:Nat):Int)):=by
 obtain⟨a2,c2,e,hp⟩:=qag (show w.ownsRow base 3 1 (.slice ao L.length cap) L.length (qab L) from h);obtain⟨g,hg⟩:=hp (by omega);simp only[Value.slice.injEq] at e;obtain⟨e1,_,_⟩:=e;rw[hg] at e1;subst e1;exact⟨g,rfl,by rw[h.cell hk,qah hk]⟩
theorem RcM.sshape (h:RcM bs NX OU base w0 cv fv nv mv col fst sv xv ov St X O i j w):∃ao cap,sv=.slice ao St.length cap:=by
 obtain⟨Nm,Mt,r,_⟩:=h.ex;exact(r.own 3 (by simp)).shape
theorem RcM.xshape (h:RcM bs NX OU base w0 cv fv nv mv col fst sv xv ov St X O i j w):∃ao cap,xv=.slice ao X.length cap:=by
 obtain⟨Nm,Mt,r,_⟩:=h.ex;exact(r.own 4 (by simp)).shape
theorem RcM.oshape (h:RcM bs NX OU base w0 cv fv nv mv col fst sv xv ov St X O i j w):∃ao cap,ov=.slice ao O.length cap:=by
 obtain⟨Nm,Mt,r,_⟩:=h.ex;exact(r.own 5 (by simp)).shape
theorem RcM.fcell {fa:Option Addr} {fc:Nat} (h:RcM bs NX OU base w0 cv (.slice fa fst.length fc) nv mv col fst sv xv ov St X O i j w) {k:Nat} (hk:k<fst.length):∃g,fa=some ⟨g,0,none⟩∧w.cell? ⟨g,k,none⟩=some (.int .i64 ((gN fst k:Nat):Int)):=by
 obtain⟨Nm,Mt,r,_⟩:=h.ex;exact qan.gcell (r.own 1 (by simp)) hk
theorem RcM.scell {sa:Option Addr} {sc:Nat} (h:RcM bs NX OU base w0 cv fv nv mv col fst (.slice sa St.length sc) xv ov St X O i j w) {k:Nat} (hk:k<St.length):∃g,sa=some ⟨g,0,none⟩∧w.cell? ⟨g,k,none⟩=some (.int .i64 ((gN St k:Nat):Int)):=by
 obtain⟨Nm,Mt,r,_⟩:=h.ex;exact qan.gcell (r.own 3 (by simp)) hk
theorem RcM.slt {g sc:Nat} (h:RcM bs NX OU base w0 cv fv nv mv col fst (.slice (some ⟨g,0,none⟩) St.length sc) xv ov St X O i j w):g<w.heap.size:=by
 obtain⟨Nm,Mt,r,_⟩:=h.ex;exact(World.ownsRow.lt (show w.ownsRow base 3 1 (.slice (some ⟨g,0,none⟩) St.length sc) _ (qab _) from r.own 3 (by simp)) g rfl).2
theorem RcM.flag {gm nm x:Nat} (h:RcM bs NX OU base w0 cv fv nv (.slice (some ⟨gm,0,none⟩) nm nm) col fst sv xv ov St X O i j w) (hx:x<OU.length):∃b:Bool,w.cell? ⟨gm,x,none⟩=some (.bool b)∧(b=true↔∃a,a<St.length∧gN St a=x):=by
 obtain⟨Nm,Mt,_,o,_,hl,_,hf⟩:=h.ex;have:=hf x hx;rw[List.getD_eq_getElem?_getD,List.getElem?_eq_getElem (by omega)] at this;exact⟨Mt[x]'(by omega),(o.cell (by omega)).1,this⟩
theorem RcM.oown (h:RcM bs NX OU base w0 cv fv nv mv col fst sv xv ov St X O i j w):w.ownsRow base 3 1 ov O.length (qab O):=by
 obtain⟨Nm,Mt,r,_⟩:=h.ex;exact r.own 5 (by simp)
theorem NAt.lt2 {L:List Nat} {b off k:Nat} (h:NAt w (some ⟨b,off,none⟩) L) (hk:k<L.length):b<w.heap.size:=by
 rcases h with h|⟨b',off',h1,h2,_⟩
 ·rw[h] at hk;cases hk
 ·simp only[Option.some.injEq,Addr.mk.injEq] at h1
  obtain⟨rfl,_⟩:=h1;exact h2
theorem RcM.far {sg sc xb ob off z y:Nat} {oa':Option Addr} {oc':Nat} {u1 u2 u3:Value} (h:RcM bs NX OU base w0 cv fv nv mv col fst (.slice (some ⟨sg,0,none⟩) St.length sc) xv (.slice oa' O.length oc') St X O i j w) (hx:xb<w.heap.size) (hx2:xb<base) (ho:ob<w.heap.size) (ho2:ob<base) {w6:World} (h2:(w.alloc (.cells #[.int .i64 (y:Nat)] 3)).drew.grownBy w6 (.slice oa' O.length oc':Value).ownBlock)
 {p q:Nat} (c1:w.cell? ⟨xb,p,none⟩=some u1) (c2:w.cell? ⟨sg,q,none⟩=some u2) (c3:w.cell? ⟨ob,off+z,none⟩=some u3):w6.cell? ⟨xb,p,none⟩=some u1∧w6.cell? ⟨sg,q,none⟩=some u2∧w6.cell? ⟨ob,off+z,none⟩=some u3:=by
 obtain⟨Nm,Mt,r,_⟩:=h.ex;have x5:Below w.heap.size w (w.alloc (.cells #[.int .i64 (y:Nat)] 3)).drew:=(NmP.x5 w y).drew;have k6:=qae h2;have oo:w.ownsRow base 3 1 (.slice oa' O.length oc') O.length (qab O):=r.own 5 (by simp);have hs:=World.ownsRow.lt (show w.ownsRow base 3 1 (.slice (some ⟨sg,0,none⟩) St.length sc) _ (qab _) from r.own 3 (by simp)) sg rfl;have hap:¬(.slice oa' O.length oc':Value).ownBlock=some sg:=fun e=>r.ap 5 (by simp) 3 (by simp) (by decide) sg e rfl
 have hge:∀b,(.slice oa' O.length oc':Value).ownBlock=some b→base≤b:=fun b hb=>(World.ownsRow.lt oo b hb).1
 have hsz:=x5.size;refine⟨(k6.cell (p:=⟨xb,p,none⟩) (by show xb<_;omega) (fun e=>by have:=hge xb e;omega)).trans ((x5.cell (p:=⟨xb,p,none⟩) hx).trans c1),(k6.cell (p:=⟨sg,q,none⟩) (by show sg<_;omega) hap).trans ((x5.cell (p:=⟨sg,q,none⟩) hs.2).trans c2),(k6.cell (p:=⟨ob,off+z,none⟩) (by show ob<_;omega) (fun e=>by have:=hge ob e;omega)).trans ((x5.cell (p:=⟨ob,off+z,none⟩) ho).trans c3)⟩
theorem RcM.cshape (h:RcM bs NX OU base w0 cv fv nv mv col fst sv xv ov St X O i j w):∃ao cap,cv=.slice ao col.length cap∧NAt w ao col:=by
 obtain⟨Nm,Mt,r,_⟩:=h.ex;exact qan.at (r.own 0 (by simp))
theorem RcP.ncell {gn nn x v:Nat} (h:RcP bs NX OU base w0 cv fv (.slice (some ⟨gn,0,none⟩) nn nn) mv col fst sv xv ov St X O i j x v w):w.cell? ⟨gn,x,none⟩=some (.int .i64 (v:Int)):=by
 obtain⟨Nm,Mt,r,_,⟨hl,_⟩,hv⟩:=h.ex;have o:qan w base (.slice (some ⟨gn,0,none⟩) nn nn) Nm:=r.own 2 (by simp);have hx:x<Nm.length:=by have:=h.xl;omega
 rw[o.cell hx,←hv,qah hx]
theorem RcP.xown {x v:Nat} (h:RcP bs NX OU base w0 cv fv nv mv col fst sv xv ov St X O i j x v w):w.ownsRow base 3 1 xv X.length (qab X):=by
 obtain⟨Nm,Mt,r,_⟩:=h.ex;exact r.own 4 (by simp)
theorem qmu (hM:qbv bs NX OU) {na oa:Option Addr} {nc oc s b:Nat} (hat:NAt w na NX) (hs:s<OU.length) (hb:b<256):Calls Tryz.prog 58 #[auV bs na NX.length nc oa OU.length oc,.int .i64 (s:Nat),.int .i64 (b:Nat)] w fun e w'=>e=.returned (.int .i64 (((dfA bs NX OU).step s b:Nat):Int))∧Below w.heap.size w w':=by
 have hbl:=hM.bl;have hbb:b<bs.length:=by omega
 have e:(bs.getD b 0)=bs[b]:=by rw[List.getD_eq_getElem?_getD,List.getElem?_eq_getElem hbb];rfl
 have hc:=hM.bw b hb;have hq:=hM.at hs hc;have:=qer bs na oa nc oc OU.length s b _ _ NX w (by have:=hM.nxl;omega) hM.n0 rfl hbb rfl (by rw[←e];exact hq) hat;rw[show((dfA bs NX OU).step s b:Nat)=NX[s*(NX.length/OU.length)+(bs[b]).toNat]'(by rw[←e];exact hq) by
  show gN NX (s*(NX.length/OU.length)+(bs.getD b 0).toNat)=_;rw[qah hq]
  congr 1
  rw[e]]
 exact this
end
structure RcD (bs:By) (NX OU:List Nat) (base:Nat) (xv ov:Value) (col fst St X:List Nat) (w:World):Prop where
 rws:Rws w base [(xv,X),(ov,St.map (gN OU))]
 rc:RcS (dfA bs NX OU) fst St X St.length 0
 nf:qbf (dfA bs NX OU).bc 256 (gN col) (gN fst) fst.length
 cl:col.length=256
 sl:St.length≤OU.length
theorem qan.mono' {w:World} {base b:Nat} {v:Value} {L:List Nat} (h:qan w base v L) (hb:b≤base):qan w b v L:=qbx (show w.ownsRow base 3 1 v L.length (qab L) from h) hb
theorem RcM.fin {bs:By} {NX OU:List Nat} {base g b:Nat} {w0 w w':World} {cv fv nv mv sv xv ov:Value} {col fst St X O:List Nat} (h:RcM bs NX OU base w0 cv fv nv mv col fst sv xv ov St X O St.length 0 w) (hnf:qbf (dfA bs NX OU).bc 256 (gN col) (gN fst) fst.length) (hcl:col.length=256) (k6:Kept (fun i=>i=g) w w') (hg:g<base) (hb:b≤base):RcD bs NX OU b xv ov col fst St X w':=by
 obtain⟨Nm,Mt,r,_⟩:=h.ex;have hO:O=St.map (gN OU):=by rw[h.out,List.take_length]
 have hge:∀j (hj:j<6) c,(([(cv,col),(fv,fst),(nv,Nm),(sv,St),(xv,X),(ov,O)]:List RN)[j]'hj).1.ownBlock=some c→¬c=g:=fun j hj c hc e=>by
  have:=(World.ownsRow.lt (show w.ownsRow base 3 1 _ _ (qab _) from r.own j hj) c hc).1;omega
 have r':=r.kept k6 hge;refine⟨?_,h.rc,hnf,hcl,(h.bound (.inr rfl)).1⟩;have o1:qan w' base xv X:=r'.own 4 (by simp);have o2:qan w' base ov O:=r'.own 5 (by simp);rw[hO] at o2;exact(Rws.nil w' b).two (o1.mono' hb) (o2.mono' hb) (fun c h1 h2=>r.ap 4 (by simp) 5 (by simp) (by decide) c h1 h2)
set_option maxRecDepth 100000 in
set_option maxHeartbeats 8000000 in
theorem qgp (bs:By) (na oa:Option Addr) (nc oc:Nat) (NX OU:List Nat) (w:World) (hM:qbv bs NX OU) (hnx:NAt w na NX) (hou:NAt w oa OU):
 Calls Tryz.prog 77 #[auV bs na NX.length nc oa OU.length oc] w fun e w'=>(∃col,∃xa xn xc oa' on oc',e=.returned (auV (qav col) xa xn xc oa' on oc')∧∃fst St X,RcD bs NX OU w.heap.size (.slice xa xn xc) (.slice oa' on oc') col fst St X w')∧Below w.heap.size w w':=by
 obtain⟨i3,hi3,hz30,hz31,hz32⟩:=info_parts Tryz.info3n;obtain⟨i4,hi4,hz40,hz41,hz42⟩:=info_parts Tryz.info4n;have hmf:∀(fn:Fn) (first cap:Array Value) (w:World),(Instr.makeFunc fn first cap).run Tryz.prog w=.ok (.func fn first cap) w:=fun _ _ _ _=>rfl
 have hbl:=hM.bl;have hn0:=hM.n0;have hn1:=hM.n1;have hxl:=hM.nxl;have hW2:∃w2,w2=((w.alloc (.cells #[.string ⟨bs.toArray⟩,.slice na NX.length nc,.slice oa OU.length oc] 24)).alloc (.cells #[.string ⟨#[]⟩,.slice none 0 0,.slice none 0 0] 24))∧Below w.heap.size w w2∧w2.heap[w.heap.size]? =some (.cells #[.string ⟨bs.toArray⟩,.slice na NX.length nc,.slice oa OU.length oc] 24 (0,0))∧w2.heap[w.heap.size+1]? =some (.cells #[.string ⟨#[]⟩,.slice none 0 0,.slice none 0 0] 24 (0,0))∧w2.heap.size=w.heap.size+2:=by
  have B1:=heap_alloc_new w (.cells #[.string ⟨bs.toArray⟩,.slice na NX.length nc,.slice oa OU.length oc] 24);have Y1:Below (w.alloc (.cells #[.string ⟨bs.toArray⟩,.slice na NX.length nc,.slice oa OU.length oc] 24)).heap.size (w.alloc (.cells #[.string ⟨bs.toArray⟩,.slice na NX.length nc,.slice oa OU.length oc] 24)) ((w.alloc (.cells #[.string ⟨bs.toArray⟩,.slice na NX.length nc,.slice oa OU.length oc] 24)).alloc (.cells #[.string ⟨#[]⟩,.slice none 0 0,.slice none 0 0] 24)):=al (Below.refl _ _) _;have B2:=heap_alloc_new (w.alloc (.cells #[.string ⟨bs.toArray⟩,.slice na NX.length nc,.slice oa OU.length oc] 24)) (.cells #[.string ⟨#[]⟩,.slice none 0 0,.slice none 0 0] 24);rw[show(w.alloc (.cells #[.string ⟨bs.toArray⟩,.slice na NX.length nc,.slice oa OU.length oc] 24)).heap.size=w.heap.size+1 by simp] at B2;exact⟨_,rfl,al (al (Below.refl _ _) _) _,(Y1.block _ (lt_of_block B1)).trans B1,B2,by simp⟩
 obtain⟨w2,hw2,X2,B1,B2,hs2⟩:=hW2;have HM:=qaa hM;have HX2:=qaa X2;have HB1:=qaa B1;have HB2:=qaa B2;have HS2:=qaa hs2;have HNX:=qaa hnx;have HOU:=qaa hou;clear hM X2 B1 B2 hs2 hnx hou;have HN:=qaa (qkz 256 (.pointer (some ⟨w.heap.size,0,none⟩)) (fun b=>.int .u8 (((bs.getD b 0).toNat:Nat):Int)) (fun b=>.int .u8 (((bs.getD b 0).toNat:Nat):Int)) w2 (by decide)
  (fun i _=>keyOf_int_mk Tryz.underlying5 (qpe _)) (fun i _=>trivial)
  (fun i hi W x=>qfk bs w.heap.size i W (by omega) (by rw[cell_of_row _ _ _ _ _ _ ((x.block _ (lt_of_block HB1.out)).trans HB1.out)];rfl)))
 unfold auV;go_enter Tryz.func77,Tryz.ntmps77;go_wp2_with (fail);rw[←hw2];refine HN.out.mono ?_;rintro e w3 ⟨⟨cv,fv,rfl,col,fst,hd⟩,x3⟩;clear HN hw2;have c3:∀W,Below w2.heap.size w2 W→W.cell? ⟨w.heap.size,0,none⟩=some (.string ⟨bs.toArray⟩)∧W.cell? ⟨w.heap.size,1,none⟩=some (.slice na NX.length nc)∧W.cell? ⟨w.heap.size,2,none⟩=some (.slice oa OU.length oc):=fun W x=>by
  have:=(x.block _ (lt_of_block HB1.out)).trans HB1.out;exact⟨by rw[cell_of_row _ _ _ _ _ _ this];rfl,by rw[cell_of_row _ _ _ _ _ _ this];rfl,by rw[cell_of_row _ _ _ _ _ _ this];rfl⟩
 have HC:=qaa c3;have HD:=qaa hd;have XX3:=qaa x3;have R3:Hid (Rws w3 w2.heap.size [(cv,col),(fv,fst)]):=by
  have r1:=(Rws.nil w3 w2.heap.size).two hd.o1 hd.o2 hd.ap;exact r1
 have hnf:qbf (dfA bs NX OU).bc 256 (gN col) (gN fst) fst.length:=hd.nf.lits (fun b c h=>by injection h with _ h;exact Int.ofNat.inj h) (fun b c h=>by have h':(bs.getD b 0).toNat=(bs.getD c 0).toNat:=h;rw[h']);have HNF:=qaa hnf;have hfl:fst.length≤256:=qax 256 fst.length (gN fst) hnf.fstlt (fun i h1 j h2 e=>by rw[←hnf.numfst i h1,←hnf.numfst j h2,e]);obtain⟨_,d1,d2⟩:=c3 w3 x3;clear c3 x3 hd hnf;have hbw:w2.heap.size≤w3.heap.size:=XX3.out.size;have HRI:=qaa (fun w4 w5 w7 gn g7 c7 m1 m2 n1 n2 hgn p1 p2 hg7=>qmt (bs:=bs) (NX:=NX) (w4:=w4) (w5:=w5) (w7:=w7) (gn:=gn) (g7:=g7) (c7:=c7) R3.out hbw XX3.out hn0 hfl (Nat.le_refl _) m1 m2 n1 n2 hgn p1 p2 hg7);have HMT:Hid (∀w4:World,w4.ownsRow w2.heap.size 4 1 (.slice (some ⟨w3.heap.size,0,none⟩) OU.length OU.length) OU.length (madeCells (Value.bool false).cells (OU.length*1)).toList→w3.grownBy w4 none→(w4.cell? ⟨w3.heap.size,0,none⟩=some (.bool false)∧w4.frozen? ⟨w3.heap.size,0,none⟩=false)∧Below w2.heap.size w2 (w4.setCell ⟨w3.heap.size,0,none⟩ (.bool true))):=fun w4 m1 m2=>by
  have o4:qfj w4 w2.heap.size (.slice (some ⟨w3.heap.size,0,none⟩) OU.length OU.length) (List.replicate OU.length false):=by unfold qfj;rw[qcz] at m1;simpa using m1
  obtain⟨q1,q2⟩:=o4.cell (i:=0) (by simpa using hn0);exact⟨⟨by rw[q1];simp,q2⟩,(bt XX3.out (qad m2) (Nat.le_refl _)).setCell hbw _⟩
 have h0':(0:Int)<(OU.length:Int):=by omega
 go_wp2_with (first
  |(at_make;refine wpList_make_full _ rfl (.tmp 21) (.tmp 21) 86 rfl w2.heap.size 4 i4 (.bool false) 1 Tryz.underlying86 hi4 hz40 hz41 .i64 .i64 _ _ OU.length rfl rfl rfl rfl (by rw[hz42];omega) (by unfold maxLen;omega) hbw ?_;intro w4 m1 m2;obtain⟨⟨q1,q2⟩,y4⟩:=HMT.out w4 m1 m2;obtain⟨_,d3,d4⟩:=HC.out _ y4;have M1:=qaa m1;have M2:=qaa m2;have Y4:=qaa y4;clear m1 m2 y4)
  |(at_make;refine wpList_make_full _ rfl (.tmp 27) (.tmp 27) 22 rfl w2.heap.size 3 i3 (.int .i64 0) 1 Tryz.underlying22 hi3 hz30 hz31 .i64 .i64 _ _ OU.length rfl rfl rfl rfl (by rw[hz32];omega) (by unfold maxLen;omega) Y4.out.size ?_;intro w5 n1 n2;have y5:Below w2.heap.size w2 w5:=(bt Y4.out (qad n2) (Nat.le_refl _));obtain⟨_,d5,d6⟩:=HC.out _ (al y5 (.cells #[.int .i64 0] 3));have N1:=qaa n1;have N2:=qaa n2;have Y5:=qaa y5;clear n1 n2 y5 d3 d4 q1 q2)
  |(at_make;refine wpList_make_own _ rfl (.const (.int .i64 0)) (.tmp 32) 22 rfl w2.heap.size 3 i3 (.int .i64 0) 1 Tryz.underlying22 hi3 hz30 hz31 .i64 .i64 _ NX.length rfl rfl rfl (by rw[hz32];omega) (by unfold maxLen;omega) (Nat.le_trans Y5.out.size (al (Below.refl w5.heap.size w5) (.cells #[.int .i64 0] 3)).size) ?_;intro w7 p1 p2;have S0:=qaa (HRI.out w4 w5 w7 _ _ _ M1.out M2.out N1.out N2.out rfl p1 p2 (Nat.le_refl _));clear p1 p2 d5 d6))
 rw[show(w5.alloc (.cells #[.int .i64 0] 3)).heap.size=w5.heap.size+1 by simp] at S0;rw[show(w4.setCell ⟨w3.heap.size,0,none⟩ (.bool true)).heap.size=w4.heap.size by simp] at S0;obtain⟨fa,fc,hfv,_⟩:=qag (show w3.ownsRow w2.heap.size 3 1 fv fst.length (qab fst) from R3.out.own 1 (by simp));subst hfv;clear M1 M2 N1 N2 Y4 Y5 HRI HMT d1 d2;go_loopg [7,8,9,10] (OU.length+1) (fun g sv xv ov x wr=>∃(i:Nat) (St X O:List Nat),x=.int .i64 (i:Nat)∧Hid (RcM bs NX OU w2.heap.size w2 cv (.slice fa fst.length fc) (.slice (some ⟨w4.heap.size,0,none⟩) OU.length OU.length) (.slice (some ⟨w3.heap.size,0,none⟩) OU.length OU.length) col fst sv xv ov St X O i 0 wr)∧OU.length-i<g)
 case atStart=>exact⟨0,[0],[],[],rfl,S0,by omega⟩
 case round=>
  obtain⟨i,St,X,O,rfl,S,hg⟩:=hrel;have HG:=qaa hg;clear hg S0;have hile:=S.out.rc.il;obtain⟨oa',oc',hov⟩:=S.out.oshape;subst hov;obtain⟨sa,sc,hsv⟩:=S.out.sshape;subst hsv;by_cases hi:i<St.length
  ·have hi':(i:Int)<(St.length:Int):=by omega
   go_wp2;go_loopg [7,8,42] (fst.length+1) (fun g sv xv x wr=>∃(j:Nat) (St X:List Nat),x=.int .i64 (j:Nat)∧Hid (RcM bs NX OU w2.heap.size w2 cv (.slice fa fst.length fc) (.slice (some ⟨w4.heap.size,0,none⟩) OU.length OU.length) (.slice (some ⟨w3.heap.size,0,none⟩) OU.length OU.length) col fst sv xv (.slice oa' O.length oc') St X O i j wr)∧i<St.length∧fst.length-j<g)
   case atStart=>exact⟨0,St,X,rfl,S,hi,by omega⟩
   case round=>
    clear S hi' hi hile;obtain⟨j,St,X,rfl,S,hi,hg2⟩:=hrel;have HG2:=qaa hg2;clear hg2;obtain⟨sa,sc,hsv⟩:=S.out.sshape;subst hsv;obtain⟨xa,xc,hxv⟩:=S.out.xshape;subst hxv;by_cases hj:j<fst.length
    ·have hj':(j:Int)<(fst.length:Int):=by omega
     have hi':(i:Int)<(St.length:Int):=by omega
     obtain⟨x,hx⟩:∃x,x=(dfA bs NX OU).step (gN St i) (gN fst j):=⟨_,rfl⟩;have hbj:gN fst j<256:=HNF.out.fstlt j hj;have hsi:gN St i<OU.length:=S.out.rc.lt i hi;have hxl:x<OU.length:=by rw[hx];exact HM.out.ok.step hsi hbj
     obtain⟨fg,rfl,cf⟩:=S.out.fcell hj;obtain⟨sg,rfl,cs⟩:=S.out.scell hi;have HST:=qaa (fun(W':World) (y:Below wr.heap.size wr W')=>qmu (HM.out) (HNX.out.below (bt HX2.out (bt S.out.bel y (Nat.le_refl _)) (Nat.le_refl _))) hsi hbj (nc:=nc) (oa:=oa) (oc:=oc));rw[←hx] at HST;have HXE:=qaa hx;clear hx;obtain⟨e0,e1,e2⟩:=HC.out wr S.out.bel;have hwl:w.heap.size<wr.heap.size:=by have:=S.out.bel.size;have:=HS2.out;omega
     have hsl:sg<wr.heap.size:=S.out.slt;have HDr:Hid (Below wr.heap.size wr wr.drew):=(Below.refl _ _).drew;have hbd:=S.out.bound (.inl hi);go_wp2;refine wp_region_quiet (C:=fun w'=>Below wr.heap.size wr w') (by kernel_rfl) (by kernel_rfl) HDr.out ?_;refine QW.out (l:=_::_) ?_
     iterate 6 (refine QW.take (by rfl) ?_;apply Exists.intro;refine⟨fun w' hw'=>?_,?_⟩;(·(have g0:=(hw'.cell (p:=⟨w.heap.size,0,none⟩) hwl).trans e0;have g1:=(hw'.cell (p:=⟨w.heap.size,1,none⟩) hwl).trans e1;have g2:=(hw'.cell (p:=⟨w.heap.size,2,none⟩) hwl).trans e2;have g3:=(hw'.cell (p:=⟨sg,i,none⟩) hsl).trans cs;go_simp;first|done|(first|done|rfl)));try simp only[Act.put,List.setIfInBounds_toArray,List.set_cons_zero,List.set_cons_succ])
     iterate 1 (refine QW.take (by rfl) ?_;apply Exists.intro;refine⟨fun w' hw'=>?_,?_⟩;(·(have g0:=(hw'.cell (p:=⟨w.heap.size,0,none⟩) hwl).trans e0;have g1:=(hw'.cell (p:=⟨w.heap.size,1,none⟩) hwl).trans e1;have g2:=(hw'.cell (p:=⟨w.heap.size,2,none⟩) hwl).trans e2;have g3:=(hw'.cell (p:=⟨sg,i,none⟩) hsl).trans cs;go_simp;(refine(HST.out _ hw').mono ?_;rintro e w9 ⟨rfl,x9⟩;exact⟨rfl,hw'.trans (x9.mono hw'.size)⟩)));try simp only[Act.put,List.setIfInBounds_toArray,List.set_cons_zero,List.set_cons_succ])
     iterate 1 (refine QW.take (by rfl) ?_;apply Exists.intro;refine⟨fun w' hw'=>?_,?_⟩;(·(have g0:=(hw'.cell (p:=⟨w.heap.size,0,none⟩) hwl).trans e0;have g1:=(hw'.cell (p:=⟨w.heap.size,1,none⟩) hwl).trans e1;have g2:=(hw'.cell (p:=⟨w.heap.size,2,none⟩) hwl).trans e2;have g3:=(hw'.cell (p:=⟨sg,i,none⟩) hsl).trans cs;go_simp;first|done|(first|done|rfl)));try simp only[Act.put,List.setIfInBounds_toArray,List.set_cons_zero,List.set_cons_succ])
     refine QW.nil ?_;intro w8 x8;have S8:=qaa (S.out.below (Nat.le_refl _) x8);obtain⟨fb,hfb,hfi⟩:=S8.out.flag hxl;have HFI:=qaa hfi;clear hfi e0 e1 e2 cs cf x8 HST;have hxl':(x:Int)<(OU.length:Int):=by omega
     go_upto_if 57 with fail
     go_cut [7] (fun s7 wx=>∃(St':List Nat) (v:Nat),Hid (RcP bs NX OU w2.heap.size w2 cv (.slice (some ⟨fg,0,none⟩) fst.length fc) (.slice (some ⟨w4.heap.size,0,none⟩) OU.length OU.length) (.slice (some ⟨w3.heap.size,0,none⟩) OU.length OU.length) col fst s7 (.slice xa X.length xc) (.slice oa' O.length oc') St' X O i j x v wx)∧i<St'.length)
     case first=>
      cases fb with
      |true=>
       obtain⟨v,hv,P⟩:=S8.out.met hj hxl HXE.out (HFI.out.1 rfl);have P:=qaa P;go_wp2;go_meet;exact⟨St,v,P,hi⟩
      |false=>
       obtain⟨wB,hwB,⟨u1,q1⟩,q2,⟨u2,q3⟩,q4,oS,bB,HP⟩:=S8.out.new (Nat.le_refl _) hi hj hxl HXE.out (fun h=>by have:=HFI.out.2 h;cases this);have hszB:wB.heap.size=w8.heap.size:=by rw[hwB];simp
       have O5:Hid ((wB.alloc (.cells #[.int .i64 (x:Nat)] 3)).ownsRow w2.heap.size 3 1 (.slice (some ⟨sg,0,none⟩) St.length sc) St.length (qab St)):=own_below oS (NmP.x5 _ _);have HN5:=qaa (qbi wB x 3);have HS5:Hid (w2.heap.size≤(wB.alloc (.cells #[.int .i64 (x:Nat)] 3)).heap.size):=Nat.le_trans bB.size (NmP.x5 wB x).size;rw[hszB] at HN5;have HPP:=qaa (fun w6 sv' g1 g2=>HP (wB.alloc (.cells #[.int .i64 (x:Nat)] 3)) w6 sv' (NmP.x5 _ _) g1 g2);clear HP oS bB hszB;subst hwB;go_wp2_with (at_builtin;refine qac rfl (.tmp 66) (.tmp 68) 22 rfl w2.heap.size 3 i3 (.int .i64 0) 1 8 Tryz.underlying22 hi3 hz30 hz31 hz32 rfl (by decide) _ St.length (qab St) rfl O5.out ⟨w8.heap.size,0,none⟩ 1 1 [.int .i64 (x:Nat)] rfl rfl HN5.out (by simp[Value.oneCell']) (by decide) (by unfold maxLen;omega) (by omega) HS5.out ?_;intro v6 w6 g1 g2;have P:=qaa (HPP.out w6 v6 g1 g2);clear g1 g2);go_meet;exact⟨St++[x],St.length,P,by simp;omega⟩
     case rest=>
      obtain⟨St',v,P,hi2⟩:=hcut;have cn:=P.out.ncell;have O6:Hid ((wc.alloc (.cells #[.int .i64 (v:Nat)] 3)).ownsRow w2.heap.size 3 1 (.slice xa X.length xc) X.length (qab X)):=own_below P.out.xown (NmP.x5 _ _);have HN6:=qaa (qbi wc v 3);have HS6:Hid (w2.heap.size≤(wc.alloc (.cells #[.int .i64 (v:Nat)] 3)).heap.size):=Nat.le_trans P.out.bel.size (NmP.x5 wc v).size;have HPA:=qaa (fun(w6:World) (v6:Value) g1 g2=>P.out.app (w':=w6) (xv':=v6) (Nat.le_refl _) (NmP.x5 wc v) g1 g2);go_wp2_with (at_builtin;refine qac rfl (.tmp 70) (.tmp 75) 22 rfl w2.heap.size 3 i3 (.int .i64 0) 1 8 Tryz.underlying22 hi3 hz30 hz31 hz32 rfl (by decide) _ X.length (qab X) rfl O6.out ⟨wc.heap.size,0,none⟩ 1 1 [.int .i64 (v:Nat)] rfl rfl HN6.out (by simp[Value.oneCell']) (by decide) (by unfold maxLen;omega) (by omega) HS6.out ?_;intro v6 w6 g1 g2;have S6:=qaa (HPA.out w6 v6 g1 g2);clear g1 g2);go_roundg (fst.length-(j+1)+1)
      case measure=>have:=HG2.out;omega
      case rel=>exact⟨j+1,St',X++[v],by first|rfl|go_num|(congr 1;omega),S6,hi2,by omega⟩
    ·obtain rfl:j=fst.length:=by have:=S.out.rc.jl;omega
     have hi':(i:Int)<(St.length:Int):=by omega
     obtain⟨sg,rfl,cs⟩:=S.out.scell hi;have hsi:gN St i<OU.length:=S.out.rc.lt i hi;obtain⟨ob,off,rfl,hob,co⟩:=(HOU.out.below (bt HX2.out S.out.bel (Nat.le_refl _))).get hsi;obtain⟨_,_,e2⟩:=HC.out wr S.out.bel;have hol:O.length≤OU.length:=by
      have:=S.out.bound (.inl hi);rw[S.out.out,List.length_map,List.length_take];omega
     obtain⟨y,hy⟩:∃y,OU[gN St i]=y:=⟨_,rfl⟩;have HY:Hid (gN OU (gN St i)=y):=by unfold Hid;rw[qah hsi,hy]
     rw[hy] at co;clear hy;obtain⟨z,hz⟩:∃z,gN St i=z:=⟨_,rfl⟩;have HOW:Hid ((wr.alloc (.cells #[.int .i64 (y:Nat)] 3)).drew.ownsRow w2.heap.size 3 1 (.slice oa' O.length oc') O.length (qab O)):=World.ownsRow.drew (own_below S.out.oown (NmP.x5 _ _));have HNW:Hid (∀j u,([.int .i64 (y:Nat)]:List Value)[j]? =some u→(wr.alloc (.cells #[.int .i64 (y:Nat)] 3)).drew.cell? ((⟨wr.heap.size,0,none⟩:Addr).add j)=some u):=fun j u hu=>qbi wr y 3 j u hu
     have HSW:Hid (w2.heap.size≤(wr.alloc (.cells #[.int .i64 (y:Nat)] 3)).drew.heap.size):=Nat.le_trans S.out.bel.size (NmP.x5 wr y).size;have HROW:Hid (∀(g6 cap6:Nat) (w6:World),w6.ownsRow w2.heap.size 3 1 (.slice (some ⟨g6,0,none⟩) (O.length+1) cap6) (O.length+1) (qab O++[.int .i64 (y:Nat)])→(wr.alloc (.cells #[.int .i64 (y:Nat)] 3)).drew.grownBy w6 (.slice oa' O.length oc':Value).ownBlock→((.slice oa' O.length oc':Value).ownBlock=some g6∨g6=(wr.alloc (.cells #[.int .i64 (y:Nat)] 3)).drew.heap.size)→RcM bs NX OU w2.heap.size w2 cv (.slice fa fst.length fc) (.slice (some ⟨w4.heap.size,0,none⟩) OU.length OU.length) (.slice (some ⟨w3.heap.size,0,none⟩) OU.length OU.length) col fst (.slice (some ⟨sg,0,none⟩) St.length sc) (.slice xa X.length xc) (.slice (some ⟨g6,0,none⟩) (O.length+1) cap6) St X (O++[y]) (i+1) 0 w6):=fun g6 cap6 w6 h1 h2 h3=>by
      rw[←HY.out] at h1 h2 h3 ⊢;refine S.out.row (Nat.le_refl _) hi (NmP.x5 wr _).drew h1 h2 (fun b hb=>?_);have e:g6=b:=Option.some.inj hb;subst e;rcases h3 with h3|h3
      ·exact .inl h3
      ·exact .inr (by omega)
     rw[hz] at cs co;have hzl:(z:Int)<(OU.length:Int):=by omega
     clear hz;have hwl:w.heap.size<wr.heap.size:=by have:=S.out.bel.size;have:=HS2.out;omega
     have hbi:=(S.out.bound (.inl hi)).1;have hiw:IntKind.i64.wrap ((i:Int)+1)=((i+1:Nat):Int):=by simp[IntKind.wrap,IntKind.bits,IntKind.signed];omega
     have hsl:sg<wr.heap.size:=S.out.slt;have n1:¬sg=wr.heap.size:=by omega
     have n2:¬wr.heap.size=sg:=by omega
     have n3:¬ob=wr.heap.size:=by omega
     have n4:¬wr.heap.size=ob:=by omega
     have n5:¬w.heap.size=wr.heap.size:=by omega
     have n6:¬wr.heap.size=w.heap.size:=by omega
     have HFAR:=qaa (fun(w6:World) (h2:(wr.alloc (.cells #[.int .i64 (y:Nat)] 3)).drew.grownBy w6 (.slice oa' O.length oc':Value).ownBlock)=>S.out.far hwl (by have:=HS2.out;omega) hob (by have:=HS2.out;have:=lt_of_block HB1.out;exact Nat.lt_of_lt_of_le (HOU.out.lt2 hsi) (by omega)) h2 e2 cs co);go_wp2;go_region_held3 (fun w'=>w'.cell? ⟨w.heap.size,2,none⟩=some (.slice (some ⟨ob,off,none⟩) OU.length oc)∧w'.cell? ⟨sg,i,none⟩=some (.int .i64 (z:Nat))∧w'.cell? ⟨ob,off+z,none⟩=some (.int .i64 (y:Nat))) (first|assumption|(simp[go_sem, *];done))
      ((refine step_append_lies _ (by rfl) (.tmp 78) (.tmp 87) 22 (by rfl) w2.heap.size 3 i3 (.int .i64 0) 1 8 Tryz.underlying22 hi3 hz30 hz31 hz32 rfl (by decide) _ O.length (qab O) (by rfl) HOW.out ⟨wr.heap.size,0,none⟩ 1 1 [.int .i64 (y:Nat)] (by rfl) (by rfl) HNW.out (by simp[Value.oneCell']) (by decide) (by unfold maxLen;omega) (by omega) HSW.out _ rfl ?_;intro g6 cap6 w6 h1 h2 h3 h4;have S6:=qaa (HROW.out g6 cap6 w6 h1 h2 h3);obtain⟨d0,d1,d2⟩:=HFAR.out w6 h2;clear h1 h2 h3 h4))
     clear d0 d1 d2 cs co e2;go_wp2;go_roundg (OU.length-(i+1)+1)
     case measure=>have:=HG.out;have:=(S.out.bound (.inl hi)).1;omega
     case rel=>exact⟨i+1,St,X,O++[y],by first|rfl|go_num|(congr 1;omega),by simpa using S6,by omega⟩
  ·have hi':¬(i:Int)<(St.length:Int):=by omega
   obtain rfl:i=St.length:=by omega
   obtain⟨ca,cc,hcv,hca⟩:=S.out.cshape;subst hcv;have HCL:Hid (col.length=256):=HD.out.len;have HBC:=qaa (qbn ca cc col wr (by have:=HCL.out;omega) (fun x hx=>by
    have hcl:=HCL.out;obtain⟨k,hk,rfl⟩:=List.mem_iff_getElem.1 hx;have:=HNF.out.numlt k (by omega);rw[qah hk] at this;omega) hca)
   obtain⟨xa,xc,hxv⟩:=S.out.xshape;subst hxv;go_wp2_with (fail);refine HBC.out.mono ?_;rintro e w9 ⟨rfl,x9⟩;have S9:=qaa (S.out.below (Nat.le_refl _) x9);have hlt2:=lt_of_block HB2.out;obtain⟨c0,f0,c1,f1,c2,f2,B6,k6⟩:=st3 ((S9.out.bel.block _ hlt2).trans HB2.out) (.string ⟨(qav col).toArray⟩) (.slice xa X.length xc) (.slice oa' O.length oc');have d0:=cell_of_row _ _ 0 _ _ _ B6;have d1:=cell_of_row _ _ 1 _ _ _ B6;have d2:=cell_of_row _ _ 2 _ _ _ B6;have hsz:=HS2.out;have HF:=qaa (S9.out.fin HNF.out HCL.out k6 (by omega) (b:=w.heap.size) (by omega));have HXF:=qaa ((bt HX2.out (S9.out.bel) (Nat.le_refl _)).trans (k6.below (by have:=S9.out.bel.size;omega) (fun b hb=>by omega)));clear x9 HBC B6 k6;go_wp2;refine bodyPost_ret (by simp[results,Tryz.results77,go_sem,d0,d1,d2];try rfl) rfl ?_;exact⟨⟨col,_,_,_,_,_,_,rfl,fst,St,X,HF.out⟩,HXF.out⟩
end Go.Proofs.YtdgoilkgplnhfaaGreat

