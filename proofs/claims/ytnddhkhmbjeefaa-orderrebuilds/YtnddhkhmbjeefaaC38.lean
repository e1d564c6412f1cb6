/-
  made by its contract (under way). Conditions: arguments that a machine can hold.
-/
import Derived.Deep.DeepCutAuto
import Derived.Deep.CutBlock
import Derived.Test.YtnddhkhmbjeefaaC36
import Derived.Test.YtnddhkhmbjeefaaC37
namespace Go.Proofs.Ytnddhkhmbjeefaa
open Go.RowKit Go.Lib Go.Maps
def szM (A:List Int) (k:Nat):List Int:=(A.take k).map fun c=>1+(pkZ c 4:Int)
theorem szM_ok {A:List Int} {k:Nat} (h1:1≤k) (h7:k≤7) (hk:k≤A.length):SzOk (szM A k)∧(∀x∈szM A k,x≤4)∧(szM A k).length=k:=by
 have hl:(szM A k).length=k:=by simp[szM];omega
 have hx:∀x∈szM A k,1≤x∧x≤4:=fun x hx=>by
  obtain⟨c,_,rfl⟩:=List.mem_map.1 hx
  have:=pkZ_lt c (n:=4) (by decide)
  omega
 exact⟨⟨by omega,by omega,fun s hs=>⟨(hx s hs).1,by have:=(hx s hs).2;omega⟩⟩,fun x h=>(hx x h).2,hl⟩
theorem own_zat {w:World} {base n c:Nat} {so:Option Addr} {L:List Int} (h:w.ownsRow base 3 1 (.slice so n c) n (zC L)):ZAt w so L:=by
 have hl:L.length=n:=by have:=h.1;simpa [zC] using this
 rcases h.2 with⟨e2,h2⟩|⟨g,cap,cur,e2,_,hg,_⟩
 ·exact .inl (List.length_eq_zero_iff.1 (by omega))
 ·injection e2 with e3 e4 e5
  subst e3
  refine .inr ⟨g,0,rfl,lt_of_block hg,fun i hi=>?_⟩
  rw[Nat.zero_add,World.ownsRow.cellAt h i (by omega),zC_get L hi]
theorem mk_len {S:List Int} {M:Int} {N N':List Nd} {lv f e:Int} {ks:List Int} (h:MkP S M N lv ks f e N'):N'.length≤N.length+1:=by
 rcases h with⟨_,_,_,rfl⟩|⟨_,_,_,_,rfl⟩|⟨_,_,_,_,rfl⟩|⟨_,_,_,_,_,_,rfl⟩|⟨_,_,_,_,_,_,rfl⟩
 ·omega
 ·omega
 ·omega
 ·omega
 ·simp
theorem MdR.keep {w0 w w':World} {a x bb:Nat} {S:List Int} {N:List Nd} {m:Nat} {P Q:Nat→Prop} {v0 v1 v2:Value} {L1 L2:List Int} (h:MdR w0 w a x S N m P Q v0 v1 L1 v2 L2) (k:Kept (fun j=>j=bb) w w') (hp:¬P bb) (hq:¬Q bb) (hb:w0.heap.size≤bb) (e0:v0.ownBlock≠some bb) (e1:v1.ownBlock≠some bb) (e2:v2.ownBlock≠some bb):MdR w0 w' a x S N m P Q v0 v1 L1 v2 L2:=
 ⟨h.ca.kept k (fun j hj e=>hp (e▸hj)),h.ra.kept k (fun j hj e=>hq (e▸hj)),h.pq,h.lp,h.lq,h.bel.trans (k.below h.bel.size (fun j e=>by rw[e];exact hb)),own_kept h.r0 k (fun j hj e=>e0 (by rw[hj,e])),own_kept h.r1 k (fun j hj e=>e1 (by rw[hj,e])),own_kept h.r2 k (fun j hj e=>e2 (by rw[hj,e])),h.n0,h.n1,h.n2,h.n02,h.n12⟩
structure MdA (w:World) (ao:Option Addr) (A:List Int) (no:Option Addr) (Ns:List RW) (ro:Option Addr) (Rt:List Int):Prop where
 za:ZAt w ao A
 fa:∀c∈A,Fit c
 la:A.length≤140737488351232
 zn:RawAt w no Ns
 fn:∀x∈Ns,Fit x.lv∧∀c∈x.ks,Fit c
 ln:Ns.length≤140737488351232
 zr:ZAt w ro Rt
 fr:∀c∈Rt,Fit c
 lr:Rt.length≤140737488351232
theorem MdA.below {w w':World} {ao no ro:Option Addr} {A Rt:List Int} {Ns:List RW} (h:MdA w ao A no Ns ro Rt) (y:Below w.heap.size w w'):MdA w' ao A no Ns ro Rt:=
 ⟨h.za.below y,h.fa,h.la,h.zn.below y,h.fn,h.ln,h.zr.below y,h.fr,h.lr⟩
section
variable {w:World} {ao no ro:Option Addr} {A Rt:List Int} {Ns:List RW}
set_option maxRecDepth 100000 in
set_option maxHeartbeats 8000000 in
theorem made_any (c1 c2 c3:Nat) (h:MdA w ao A no Ns ro Rt):
 Calls Try.prog 9 #[.agg #[.slice ao A.length c1,.slice no Ns.length c2,.slice ro Rt.length c3]] w fun e w'=>∃bb a x so rc S N rs,e=.returned (.tuple #[.pointer (some ⟨bb,0,none⟩),.bool true])∧BoX w' bb a (.pointer (some ⟨x,0,none⟩)) so rc S 8192 N rs∧(∃Q,RA w' x S 8192 N Q)∧N.length≤400∧Below w.heap.size w w':=by
 obtain⟨i3,hi3,hz30,hz31,hz32⟩:=info_parts Try.info3
 have X1:Hid (Below w.heap.size w (w.alloc (.cells #[.slice ao A.length c1,.slice no Ns.length c2,.slice ro Rt.length c3] 25))):=al (Below.refl _ _) _
 have B1:Hid ((w.alloc (.cells #[.slice ao A.length c1,.slice no Ns.length c2,.slice ro Rt.length c3] 25)).heap[w.heap.size]? =some (.cells #[.slice ao A.length c1,.slice no Ns.length c2,.slice ro Rt.length c3] 25 (0,0))):=heap_alloc_new w _
 have HM:=hide (h.below X1.out)
 have hla:=h.la
 have hln:=h.ln
 have hlr:=h.lr
 clear h
 go_enter Try.func9,Try.ntmps9
 go_upto_region 1 with fail
 generalize w.alloc (.cells #[.slice ao A.length c1,.slice no Ns.length c2,.slice ro Rt.length c3] 25)=w1 at *
 have BX:Hid (∀V,Below w1.heap.size w1 V→V.cell? ⟨w.heap.size,0,none⟩=some (.slice ao A.length c1)∧V.cell? ⟨w.heap.size,1,none⟩=some (.slice no Ns.length c2)∧V.cell? ⟨w.heap.size,2,none⟩=some (.slice ro Rt.length c3)):=fun V hV=>by
  have b:=(hV.block _ (lt_of_obj B1.out)).trans B1.out
  exact⟨by rw[cell_of_row V _ _ _ _ _ b];rfl,by rw[cell_of_row V _ _ _ _ _ b];rfl,by rw[cell_of_row V _ _ _ _ _ b];rfl⟩
 have ST:Hid (PmI w1 w1 (.slice none 0 0) [] (.slice none 0 0) (szM A 0)):=⟨Below.refl _ _,World.ownsRow_nil _ _ _ _,World.ownsRow_nil _ _ _ _,fun _ e=>(by cases e)⟩
 go_upto_block 0 with fail
 go_cut [4] (fun v4 wx=>∃k sl cl,v4=.slice sl k cl∧k≤A.length∧k≤7∧Hid (PmI w1 wx (.slice none 0 0) [] (.slice sl k cl) (szM A k)))
 case first=>
  go_wp2
  go_loopw [4,5] (fun v4 v5 wr=>∃k:Nat,k≤A.length∧k≤7∧v5=.int .i64 (k:Int)∧∃sl cl,v4=.slice sl k cl∧Hid (PmI w1 wr (.slice none 0 0) [] (.slice sl k cl) (szM A k))) (fun _ v _=>7-(RowKit.intOf v).toNat)
  case atStart=>exact⟨0,Nat.zero_le _,Nat.zero_le _,rfl,none,0,rfl,ST⟩
  case round=>
   obtain⟨k,hk,hk7,rfl,sl,cl,rfl,PI⟩:=hrel
   clear ST
   obtain⟨c0,cn,cr⟩:=BX.out wr PI.out.bel
   by_cases hlk:k<A.length∧k<7
   ·have hlk':(k:Int)<(A.length:Int):=by omega
    have hlk7:(k:Int)<7:=by omega
    obtain⟨zb,zo,hao,hzb,q1⟩:=(HM.out.za.below PI.out.bel).get hlk.1
    subst hao
    obtain⟨c,hcd⟩:∃c,A.getD k 0=c:=⟨_,rfl⟩
    have hcm:A[k]'hlk.1=c:=by rw[←hcd,List.getD_eq_getElem?_getD,List.getElem?_eq_getElem hlk.1];rfl
    rw[hcd] at q1
    have FC:Fit c:=by rw[←hcm];exact HM.out.fa _ (List.getElem_mem _)
    have SZ1:Hid (szM A (k+1)=szM A k++[1+(pkZ c 4:Int)]∧(szM A k).length=k):=by
     refine⟨?_,by simp[szM];omega⟩
     rw[szM,List.take_succ_eq_append_getElem hlk.1,List.map_append,hcm]
     rfl
    have PK:=hide (pick_any c 4 FC (by decide) (by decide) wr)
    obtain⟨j,hjd⟩:∃j,pkZ c 4=j:=⟨_,rfl⟩
    have hj4:j<4:=by rw[←hjd];exact pkZ_lt _ (by decide)
    rw[hjd] at PK SZ1
    clear hjd FC hcm hcd
    have ej:IntKind.i64.wrap (1+(j:Int))=1+(j:Int):=by simp[IntKind.wrap,IntKind.bits,IntKind.signed];omega
    have Y7:Hid (Below wr.heap.size wr (wr.alloc (.cells #[.int .i64 (1+(j:Int))] 3))):=al (Below.refl _ _) _
    have SW8:Hid (w1.heap.size≤(wr.alloc (.cells #[.int .i64 (1+(j:Int))] 3)).heap.size):=Nat.le_trans PI.out.bel.size Y7.out.size
    have R7:Hid ((wr.alloc (.cells #[.int .i64 (1+(j:Int))] 3)).ownsRow w1.heap.size 3 1 (.slice sl k cl) k (zC (szM A k))):=by
     have:=own_below PI.out.r2 Y7.out
     rw[SZ1.out.2] at this
     exact this
    have hk12:=hlk.2
    clear hlk
    go_upto_region 4 with(first
     |(go_at_call 14;refine PK.out.mono ?_;rintro e w6 ⟨rfl,h⟩;rw[h];clear h)
     |(at_builtin;refine wpList_append_lies _ rfl (.tmp 34) (.tmp 42) 22 rfl w1.heap.size 3 i3 (.int .i64 0) 1 8 Try.underlying22 hi3 hz30 hz31 hz32 rfl (by decide) _ k (zC (szM A k)) rfl R7.out ⟨wr.heap.size,0,none⟩ 1 1 [.int .i64 (1+(j:Int))] rfl rfl (one_new wr _ _) (by simp[Value.oneCell']) (by decide) (by unfold maxLen;omega) (by omega) SW8.out _ rfl ?_;intro g8 cap8 w8 h1 h2 h3 h4;have O8:=hide h1;have G8:=hide h2;have H8:=hide h3;clear h1 h2 h3 h4))
    have FIN:=PI.out.push (x:=1+(j:Int)) (cap:=cap8) (g:=g8) Y7.out (by rw[SZ1.out.2];exact O8.out) G8.out H8.out
    rw[←SZ1.out.1,show(szM A (k+1)).length=k+1 by rw[SZ1.out.1,List.length_append,SZ1.out.2];rfl] at FIN
    replace FIN:=hide FIN
    clear O8 G8 H8 R7 SW8 Y7 PK SZ1 ej c0 cn cr
    go_wp2
    go_roundw
    case rel=>exact⟨k+1,by omega,by omega,by go_num,_,_,rfl,FIN⟩
    case measure=>simp[RowKit.intOf];omega
   ·by_cases ha:k<A.length
    ·have ha':(k:Int)<(A.length:Int):=by omega
     have h7':¬(k:Int)<7:=by omega
     go_wp2
     go_meet
     exact⟨k,sl,cl,rfl,hk,hk7,PI⟩
    ·have ha':¬(k:Int)<(A.length:Int):=by omega
     go_wp2
     go_meet
     exact⟨k,sl,cl,rfl,hk,hk7,PI⟩
 obtain⟨k,sl,cl,rfl,hkA,hk7,PI⟩:=hcut
 clear ST
 go_upto_if 46 with fail
 go_cut [4] (fun v4 wx=>∃S sa sc,v4=.slice sa (List.length S) sc∧Hid (SzOk S)∧Hid (S.length≤7∧∀x∈S,x≤4)∧Hid (wx.ownsRow w1.heap.size 3 1 (.slice sa S.length sc) S.length (zC S))∧Hid (Below w1.heap.size w1 wx))
 case first=>
  by_cases hk0:k=0
  ·subst hk0
   go_wp2
   go_meet
   exact⟨S4,_,_,rfl,s4_ok,⟨by decide,by decide⟩,⟨rfl,.inr ⟨_,4,_,rfl,PI.out.bel.size,heap_alloc_new wc _,Nat.le_refl _,by decide,rfl,rfl⟩⟩,bt PI.out.bel (al (Below.refl _ _) _) (Nat.le_refl _)⟩
  ·have hk0':¬(k:Int)=0:=by omega
   obtain⟨o1,o2,o3⟩:=szM_ok (A:=A) (k:=k) (by omega) hk7 hkA
   have R2:=PI.out.r2
   rw[o3] at R2
   have HR2:=hide R2
   have HO:=hide (And.intro o1 (And.intro o2 o3))
   clear R2 o1 o2 o3
   go_wp2
   go_meet
   refine⟨szM A k,sl,cl,by rw[HO.out.2.2],HO.out.1,⟨by rw[HO.out.2.2];exact hk7,HO.out.2.1⟩,?_,PI.out.bel⟩
   unfold Hid
   rw[HO.out.2.2]
   exact HR2.out
 obtain⟨S,sa,sc,rfl,HSZ,HS7,RS,BS⟩:=hcut
 clear PI
 have ZS:=hide (own_zat RS.out)
 have CN:=hide (new_any sa sc S 8192 wc (by have:=HS7.out.1;omega) ZS.out)
 have CD:Hid (∀V,Below wc.heap.size wc V→Calls Try.prog 25 #[.slice sa S.length sc,.int .i64 8192] V fun e w'=>∃x Q,e=.returned (.tuple #[.pointer (some ⟨x,0,none⟩),.int .i64 0])∧RA w' x S 8192 [] Q∧(∀k,Q k→V.heap.size≤k)∧Below V.heap.size V w'):=fun V hV=>(newD_any sa sc S 8192 V (by have:=HS7.out.1;omega) (ZS.out.below hV)).mono (fun e w' hh=>by
  obtain⟨hor,hb⟩:=hh
  rcases hor with⟨_,_,_,x,Q,h3,h4,h5⟩|⟨h3,_⟩
  ·exact⟨x,Q,h3,h4,h5,hb⟩
  ·exact absurd ⟨HSZ.out,by decide,by decide⟩ h3)
 have hs7:=HS7.out.1
 go_upto_region 10 with(first
  |(go_at_call 21;refine CN.out.mono ?_;rintro en w4 ⟨hor,hb⟩;obtain⟨a,P,rfl,hca,hpa⟩:∃a P,en=.returned (.tuple #[.pointer (some ⟨a,0,none⟩),.int .i64 0])∧CA w4 a S 8192 [] 0 P∧∀k,P k→wc.heap.size≤k:=(by rcases hor with⟨_,_,_,a,P,h3,h4,h5⟩|⟨h3,_⟩;(exact⟨a,P,h3,h4,h5⟩);(exact absurd ⟨HSZ.out,by decide,by decide⟩ h3));have HCA:=hide hca;have HPA:=hide hpa;have X4:=hide hb;clear hor hca hpa hb)
  |(go_at_call 25;refine(CD.out w4 X4.out).mono ?_;rintro en w5 ⟨x,Q,rfl,hra,hqa,hb⟩;have HRA:=hide hra;have HQA:=hide hqa;have X5:=hide hb;clear hra hqa hb))
 have MD:Hid (MdR w1 w5 a x S [] 0 P Q (.slice sa S.length sc) (.slice none 0 0) [] (.slice none 0 0) []):=by
  have y5:=bt X4.out X5.out (Nat.le_refl _)
  have hz:=BS.out.size
  have hz4:=X4.out.size
  have hr0:∀j,(Value.slice sa S.length sc).ownBlock=some j→¬P j∧¬Q j:=fun j hj=>by
   have h1:=(own_low RS.out hj).2
   exact⟨fun hp=>by have:=HPA.out j hp;omega,fun hq=>by have:=HQA.out j hq;omega⟩
  exact⟨HCA.out.below X5.out,HRA.out,fun j hp hq=>(by have h1:=HCA.out.plt hp;have h2:=HQA.out j hq;omega),fun j hp=>(by have:=HPA.out j hp;omega),fun j hq=>(by have:=HQA.out j hq;omega),bt BS.out y5 (Nat.le_refl _),own_below RS.out y5,World.ownsRow_nil _ _ _ _,World.ownsRow_nil _ _ _ _,hr0,fun _ hj=>(by cases hj),fun _ hj=>(by cases hj),fun _ _ e=>(by cases e),fun _ _ e=>(by cases e)⟩
 clear CN CD ZS HCA HPA HRA HQA X4 X5 RS BS
 go_upto_block 2 with fail
 go_cut [] (fun wx=>∃N m P Q,Hid (List.length N≤400∧m≤400)∧Hid (MdR w1 wx a x S N m P Q (.slice sa S.length sc) (.slice none 0 0) [] (.slice none 0 0) []))
 case first=>
  go_wp2
  go_loopw [10] (fun v10 wr=>∃(k:Nat) (N:List Nd) (m:Nat) (P Q:Nat→Prop),v10=.int .i64 (k:Int)∧k≤Ns.length∧k≤400∧Hid (N.length≤k∧m≤k)∧Hid (MdR w1 wr a x S N m P Q (.slice sa S.length sc) (.slice none 0 0) [] (.slice none 0 0) [])) (fun v _=>400-(RowKit.intOf v).toNat)
  case atStart=>exact⟨0,[],0,P,Q,rfl,Nat.zero_le _,Nat.zero_le _,⟨Nat.le_refl _,Nat.le_refl _⟩,MD⟩
  case round=>
   obtain⟨k,N,m,P,Q,rfl,hkN,hk4,HNK,MD⟩:=hrel
   obtain⟨d0,d1,d2⟩:=BX.out wr MD.out.bel
   by_cases hlk:k<Ns.length∧k<400
   ·have hlk':(k:Int)<(Ns.length:Int):=by omega
    have hlk4:(k:Int)<400:=by omega
    obtain⟨b,off,hno,hb,hcl⟩:=(HM.out.zn.below MD.out.bel).at'.resolve_left (fun e=>by rw[e] at hlk;simp at hlk)
    subst hno
    obtain⟨z,hz⟩:∃z,Ns[k]'hlk.1=z:=⟨_,rfl⟩
    obtain⟨p1,p2⟩:=hcl k hlk.1
    rw[hz] at p1 p2
    have FZ:Hid (Fit z.lv∧(∀c∈z.ks,Fit c)∧ZAt wr z.ka z.ks∧z.ks.length≤140737488351232):=by
     rw[←hz]
     have h1:=HM.out.fn _ (List.getElem_mem hlk.1)
     have h2:=(HM.out.zn.below MD.out.bel).kids _ (List.getElem_mem hlk.1)
     exact⟨h1.1,h1.2,h2.1,h2.2⟩
    have RWC:Hid (∀V,Below w1.heap.size w1 V→V.cell? ⟨b,off+k*2,none⟩=some (.int .i64 z.lv)∧V.cell? ⟨b,off+k*2+1,none⟩=some (.slice z.ka z.ks.length z.kc)):=fun V hV=>by
     rcases (HM.out.zn.below hV).at' with e|⟨b',off',e',_,hc'⟩
     ·rw[e] at hlk;simp at hlk
     ·cases e'
      have:=hc' k hlk.1
      rw[hz] at this
      exact this
    have ZKS:Hid (∀V,Below w1.heap.size w1 V→ZAt V z.ka z.ks):=fun V hV=>by
     have:=((HM.out.zn.below hV).kids _ (List.getElem_mem hlk.1)).1
     rw[hz] at this
     exact this
    have hSge:1≤S.length:=HSZ.out.ge
    have PK:=hide (pick_any z.lv S.length FZ.out.1 (by omega) (by omega) wr)
    obtain⟨lv,hlvd⟩:∃lv,pkZ z.lv S.length=lv:=⟨_,rfl⟩
    have hlv:lv<S.length:=by rw[←hlvd];exact pkZ_lt _ (by omega)
    rw[hlvd] at PK
    clear hlvd hcl hz
    have hkk:=hlk
    clear hlk
    go_upto_region 16 with(go_at_call 14;refine PK.out.mono ?_;rintro e w6 ⟨rfl,h⟩;rw[h];clear h)
    clear PK p1
    have M2:=hide (MD.out.two (p:=0) (q:=1))
    go_upto_block 4 with fail
    generalize wr.alloc (.cells #[.int .i64 0,.int .i64 1] 3)=w6 at *
    generalize wr.heap.size=rb at *
    have hNk:=HNK.out.1
    go_cut [12] (fun v12 wx=>∃L ra rc,v12=.slice ra (List.length L) rc∧Hid (0<L.length∧L.length≤402∧∀r∈L,hasR N r∧(lv:Int)<lvl S N r)∧Hid (MdR w1 wx a x S N m P Q (.slice sa S.length sc) (.slice none 0 0) [] (.slice ra L.length rc) L))
    case first=>
     generalize wr=wo at *
     go_wp2
     go_loopw [12,13] (fun v12 v13 wr=>∃(j:Nat) (L:List Int) (ra:Option Addr) (rc:Nat),v13=.int .i64 ((j:Int)+2)∧j≤N.length∧v12=.slice ra L.length rc∧Hid (0<L.length∧L.length≤j+2∧∀r∈L,hasR N r∧(lv:Int)<lvl S N r)∧Hid (MdR w1 wr a x S N m P Q (.slice sa S.length sc) (.slice none 0 0) [] (.slice ra L.length rc) L)) (fun _ v _=>N.length+2-(RowKit.intOf v).toNat)
     case atStart=>exact⟨0,[0,1],some ⟨rb,0,none⟩,2,rfl,Nat.zero_le _,rfl,⟨by decide,by decide,fun r hr=>by
      have:r=0∨r=1:=by simpa using hr
      refine⟨⟨by omega,by omega⟩,?_⟩
      unfold lvl
      rw[if_neg (by omega)]
      omega⟩,M2⟩
     case round=>
      obtain⟨j,L,ra,rc,rfl,hj,rfl,HL,M3⟩:=hrel
      clear M2
      have LR:=hide M3.out.ra.len
      have ew:IntKind.i64.wrap ((N.length:Int)+2)=(N.length:Int)+2:=by simp[IntKind.wrap,IntKind.bits,IntKind.signed];omega
      have ew2:IntKind.i64.wrap ((j:Int)+2+1)=((j+1:Nat):Int)+2:=by simp[IntKind.wrap,IntKind.bits,IntKind.signed];omega
      by_cases hjn:j<N.length
      ·have hjn':(j:Int)+2<(N.length:Int)+2:=by omega
       have LV:=hide (M3.out.ra.level ((j:Int)+2))
       obtain⟨lj,hlj⟩:∃lj,lvl S N ((j:Int)+2)=lj:=⟨_,rfl⟩
       rw[hlj] at LV
       have HLJ:=hide hlj
       clear hlj
       by_cases hgt:(lv:Int)<lj
       ·have Y7:Hid (Below wr.heap.size wr (wr.alloc (.cells #[.int .i64 ((j:Int)+2)] 3))):=al (Below.refl _ _) _
        have SW8:Hid (w1.heap.size≤(wr.alloc (.cells #[.int .i64 ((j:Int)+2)] 3)).heap.size):=Nat.le_trans M3.out.bel.size Y7.out.size
        have R7:=hide (own_below M3.out.r2 Y7.out)
        have hL1:=HL.out.2.1
        go_upto_region 19 with(first
         |(go_at_call 26;refine LR.out.mono ?_;rintro e w7 ⟨rfl,h⟩;rw[h];clear h)
         |(go_at_call 27;refine LV.out.mono ?_;rintro e w7 ⟨rfl,h⟩;rw[h];clear h)
         |(at_builtin;refine wpList_append_lies _ rfl (.tmp 101) (.tmp 103) 22 rfl w1.heap.size 3 i3 (.int .i64 0) 1 8 Try.underlying22 hi3 hz30 hz31 hz32 rfl (by decide) _ L.length (zC L) rfl R7.out ⟨wr.heap.size,0,none⟩ 1 1 [.int .i64 ((j:Int)+2)] rfl rfl (one_new wr _ _) (by simp[Value.oneCell']) (by decide) (by unfold maxLen;omega) (by omega) SW8.out _ rfl ?_;intro g8 cap8 w8 h1 h2 h3 h4;have O8:=hide h1;have G8:=hide h2;have H8:=hide h3;clear h1 h2 h3 h4))
        have FIN:=hide (M3.out.push (z:=(j:Int)+2) Y7.out O8.out G8.out H8.out)
        have HL2:Hid (0<(L++[(j:Int)+2]).length∧(L++[(j:Int)+2]).length≤j+1+2∧∀r∈L++[(j:Int)+2],hasR N r∧(lv:Int)<lvl S N r):=by
         refine⟨by simp,by simp;omega,fun r hr=>?_⟩
         rcases List.mem_append.1 hr with h|h
         ·exact HL.out.2.2 r h
         ·rw[List.mem_singleton.1 h,HLJ.out]
          exact⟨⟨by omega,by omega⟩,hgt⟩
        have hll:(L++[(j:Int)+2]).length=L.length+1:=by simp
        have HLL:=hide hll
        clear O8 G8 H8 R7 SW8 Y7 LR LV ew hll
        go_wp2
        go_roundw
        case rel=>exact⟨j+1,L++[(j:Int)+2],_,_,by first|rfl|(congr 1;omega),by omega,by rw[HLL.out],HL2,FIN⟩
        case measure=>simp[RowKit.intOf];omega
       ·have HL2:Hid (0<L.length∧L.length≤j+1+2∧∀r∈L,hasR N r∧(lv:Int)<lvl S N r):=⟨HL.out.1,by have:=HL.out.2.1;omega,HL.out.2.2⟩
        go_wp2_with (first
         |(go_at_call 26;refine LR.out.mono ?_;rintro e w7 ⟨rfl,h⟩;rw[h];clear h)
         |(go_at_call 27;refine LV.out.mono ?_;rintro e w7 ⟨rfl,h⟩;rw[h];clear h))
        go_roundw
        case rel=>exact⟨j+1,L,_,_,by first|rfl|(congr 1;omega),by omega,rfl,HL2,M3⟩
        case measure=>simp[RowKit.intOf];omega
      ·have hjn':¬(j:Int)+2<(N.length:Int)+2:=by omega
       go_wp2_with (go_at_call 26;refine LR.out.mono ?_;rintro e w7 ⟨rfl,h⟩;rw[h];clear h)
       go_meet
       exact⟨L,ra,rc,rfl,⟨HL.out.1,by have:=HL.out.2.1;omega,HL.out.2.2⟩,M3⟩
    obtain⟨L,ra,rc,rfl,HL,M3⟩:=hcut
    clear M2
    have hL0:=HL.out.1
    obtain⟨rg,rfl⟩:∃rg,ra=some ⟨rg,0,none⟩:=by
     rcases M3.out.r2.2 with⟨_,h⟩|⟨g,_,_,e,_⟩
     ·omega
     ·injection e with e
      exact⟨g,e⟩
    obtain⟨sg,rfl⟩:∃sg,sa=some ⟨sg,0,none⟩:=by
     rcases M3.out.r0.2 with⟨_,h⟩|⟨g,_,_,e,_⟩
     ·omega
     ·injection e with e
      exact⟨g,e⟩
    have M4:=hide M3.out.turn
    clear M3
    obtain⟨s,hs⟩:∃s:Nat,S[lv]=(s:Int):=⟨(S[lv]).toNat,by have:=(HSZ.out.each _ (List.getElem_mem hlv)).1;omega⟩
    have hs4:s≤4:=by have:=HS7.out.2 _ (List.getElem_mem hlv);omega
    have HSV:Hid (∀V,Below w1.heap.size w1 V→V.ownsRow w1.heap.size 3 1 (.slice (some ⟨sg,0,none⟩) S.length sc) S.length (zC S)→V.cell? ⟨sg,lv,none⟩=some (.int .i64 (s:Int))):=fun V _ ho=>by
     rw[World.ownsRow.cellAt ho lv (by omega),←hs]
     simp[zC,List.getElem?_eq_getElem hlv]
    have HSE:=hide hs
    clear hs
    have hlvi:(lv:Int)<(S.length:Int):=by omega
    go_upto_block 6 with fail
    generalize wc=wq at *
    go_cut [14] (fun v14 wx=>∃K ka kc,v14=.slice ka (List.length K) kc∧Hid (K.length=s∧∀q∈K,hasR N q∧(lv:Int)<lvl S N q)∧Hid (MdR w1 wx a x S N m P Q (.slice (some ⟨sg,0,none⟩) S.length sc) (.slice (some ⟨rg,0,none⟩) L.length rc) L (.slice ka K.length kc) K))
    case first=>
     generalize wr=wo at *
     go_wp2
     go_loopw [14,15] (fun v14 v15 wr=>∃(c4:Nat) (K:List Int) (ka:Option Addr) (kc:Nat),v15=.int .i64 (c4:Int)∧c4≤s∧v14=.slice ka K.length kc∧Hid (K.length=c4∧∀q∈K,hasR N q∧(lv:Int)<lvl S N q)∧Hid (MdR w1 wr a x S N m P Q (.slice (some ⟨sg,0,none⟩) S.length sc) (.slice (some ⟨rg,0,none⟩) L.length rc) L (.slice ka K.length kc) K)) (fun _ v _=>s-(RowKit.intOf v).toNat)
     case atStart=>exact⟨0,[],none,0,rfl,Nat.zero_le _,rfl,⟨rfl,fun q hq=>by simp at hq⟩,M4⟩
     case round=>
      obtain⟨c4,K,ka,kc,rfl,hc4,rfl,HK,M5⟩:=hrel
      clear M4
      have sv:=HSV.out wr M5.out.bel M5.out.r0
      by_cases hcs:c4<s
      ·have hcs':(c4:Int)<(s:Int):=by omega
       obtain⟨e0,e1,e2⟩:=BX.out wr M5.out.bel
       have eij:IntKind.i64.wrap ((k:Int)+(c4:Int))=(k:Int)+(c4:Int):=by simp[IntKind.wrap,IntKind.bits,IntKind.signed];omega
       obtain⟨p3,p4⟩:wr.cell? ⟨b,off+k*2,none⟩=some (.int .i64 z.lv)∧wr.cell? ⟨b,off+k*2+1,none⟩=some (.slice z.ka z.ks.length z.kc):=RWC.out wr M5.out.bel
       by_cases hr:c4<z.ks.length
       ·have hr':(c4:Int)<(z.ks.length:Int):=by omega
        obtain⟨zb,zo,hka,hzb,q1⟩:=(ZKS.out wr M5.out.bel).get hr
        obtain⟨c,hcd⟩:∃c,z.ks.getD c4 0=c:=⟨_,rfl⟩
        rw[hcd] at q1
        have FC:Fit c:=by
         rw[←hcd,List.getD_eq_getElem?_getD,List.getElem?_eq_getElem hr]
         exact FZ.out.2.1 _ (List.getElem_mem _)
        clear hcd
        obtain⟨zka,hzka⟩:∃zka,z.ka=zka:=⟨_,rfl⟩
        rw[hzka] at p4 hka
        subst hka
        clear hzka
        obtain⟨zl,hzl⟩:∃zl,z.ks.length=zl:=⟨_,rfl⟩
        rw[hzl] at p4 hr'
        clear hzl
        have PK:=hide (pick_any c L.length FC HL.out.1 (by have:=HL.out.2.1;omega) wr)
        obtain⟨j,hjd⟩:∃j,pkZ c L.length=j:=⟨_,rfl⟩
        have hj:j<L.length:=by rw[←hjd];exact pkZ_lt _ HL.out.1
        rw[hjd] at PK
        clear hjd FC
        obtain⟨r,hrd⟩:∃r,L[j]=r:=⟨_,rfl⟩
        have HR:Hid (hasR N r∧(lv:Int)<lvl S N r):=by rw[←hrd];exact HL.out.2.2 _ (List.getElem_mem hj)
        have l1:wr.cell? ⟨rg,j,none⟩=some (.int .i64 r):=by
         rw[World.ownsRow.cellAt M5.out.r1 j (by omega),←hrd]
         simp[zC,List.getElem?_eq_getElem hj]
        clear hrd
        have hji:(j:Int)<(L.length:Int):=by omega
        have hK5:K.length≤4:=by have:=HK.out.1;omega
        have Y7:Hid (Below wr.heap.size wr (wr.alloc (.cells #[.int .i64 r] 3))):=al (Below.refl _ _) _
        have SW8:Hid (w1.heap.size≤(wr.alloc (.cells #[.int .i64 r] 3)).heap.size):=Nat.le_trans M5.out.bel.size Y7.out.size
        have R7:=hide (own_below M5.out.r2 Y7.out)
        go_upto_region 25 with(first
         |(go_at_call 14;refine PK.out.mono ?_;rintro e w7 ⟨rfl,h⟩;rw[h];clear h)
         |(at_builtin;refine wpList_append_lies _ rfl (.tmp 134) (.tmp 142) 22 rfl w1.heap.size 3 i3 (.int .i64 0) 1 8 Try.underlying22 hi3 hz30 hz31 hz32 rfl (by decide) _ K.length (zC K) rfl R7.out ⟨wr.heap.size,0,none⟩ 1 1 [.int .i64 r] rfl rfl (one_new wr _ _) (by simp[Value.oneCell']) (by decide) (by unfold maxLen;omega) (by omega) SW8.out _ rfl ?_;intro g8 cap8 w8 h1 h2 h3 h4;have O8:=hide h1;have G8:=hide h2;have H8:=hide h3;clear h1 h2 h3 h4))
        have FIN:=hide (M5.out.push (z:=r) Y7.out O8.out G8.out H8.out)
        have HK2:Hid ((K++[r]).length=c4+1∧∀q∈K++[r],hasR N q∧(lv:Int)<lvl S N q):=by
         refine⟨by rw[List.length_append,HK.out.1];rfl,fun q hq=>?_⟩
         rcases List.mem_append.1 hq with h|h
         ·exact HK.out.2 q h
         ·rw[List.mem_singleton.1 h];exact HR.out
        have HLL:Hid ((K++[r]).length=K.length+1):=by unfold Hid;simp
        clear O8 G8 H8 R7 SW8 Y7 PK l1
        go_wp2
        go_roundw
        case rel=>exact⟨c4+1,K++[r],_,_,by go_num,by omega,by rw[HLL.out],HK2,FIN⟩
        case measure=>simp[RowKit.intOf];omega
       ·have hr':¬(c4:Int)<(z.ks.length:Int):=by omega
        have FC:Fit ((k:Int)+(c4:Int)):=⟨by omega,by omega⟩
        have PK:=hide (pick_any ((k:Int)+(c4:Int)) L.length FC HL.out.1 (by have:=HL.out.2.1;omega) wr)
        obtain⟨j,hjd⟩:∃j,pkZ ((k:Int)+(c4:Int)) L.length=j:=⟨_,rfl⟩
        have hj:j<L.length:=by rw[←hjd];exact pkZ_lt _ HL.out.1
        rw[hjd] at PK
        clear hjd FC
        obtain⟨r,hrd⟩:∃r,L[j]=r:=⟨_,rfl⟩
        have HR:Hid (hasR N r∧(lv:Int)<lvl S N r):=by rw[←hrd];exact HL.out.2.2 _ (List.getElem_mem hj)
        have l1:wr.cell? ⟨rg,j,none⟩=some (.int .i64 r):=by
         rw[World.ownsRow.cellAt M5.out.r1 j (by omega),←hrd]
         simp[zC,List.getElem?_eq_getElem hj]
        clear hrd
        have hji:(j:Int)<(L.length:Int):=by omega
        have hK5:K.length≤4:=by have:=HK.out.1;omega
        have Y7:Hid (Below wr.heap.size wr (wr.alloc (.cells #[.int .i64 r] 3))):=al (Below.refl _ _) _
        have SW8:Hid (w1.heap.size≤(wr.alloc (.cells #[.int .i64 r] 3)).heap.size):=Nat.le_trans M5.out.bel.size Y7.out.size
        have R7:=hide (own_below M5.out.r2 Y7.out)
        go_upto_region 25 with(first
         |(go_at_call 14;refine PK.out.mono ?_;rintro e w7 ⟨rfl,h⟩;rw[h];clear h)
         |(at_builtin;refine wpList_append_lies _ rfl (.tmp 134) (.tmp 142) 22 rfl w1.heap.size 3 i3 (.int .i64 0) 1 8 Try.underlying22 hi3 hz30 hz31 hz32 rfl (by decide) _ K.length (zC K) rfl R7.out ⟨wr.heap.size,0,none⟩ 1 1 [.int .i64 r] rfl rfl (one_new wr _ _) (by simp[Value.oneCell']) (by decide) (by unfold maxLen;omega) (by omega) SW8.out _ rfl ?_;intro g8 cap8 w8 h1 h2 h3 h4;have O8:=hide h1;have G8:=hide h2;have H8:=hide h3;clear h1 h2 h3 h4))
        have FIN:=hide (M5.out.push (z:=r) Y7.out O8.out G8.out H8.out)
        have HK2:Hid ((K++[r]).length=c4+1∧∀q∈K++[r],hasR N q∧(lv:Int)<lvl S N q):=by
         refine⟨by rw[List.length_append,HK.out.1];rfl,fun q hq=>?_⟩
         rcases List.mem_append.1 hq with h|h
         ·exact HK.out.2 q h
         ·rw[List.mem_singleton.1 h];exact HR.out
        have HLL:Hid ((K++[r]).length=K.length+1):=by unfold Hid;simp
        clear O8 G8 H8 R7 SW8 Y7 PK l1
        go_wp2
        go_roundw
        case rel=>exact⟨c4+1,K++[r],_,_,by go_num,by omega,by rw[HLL.out],HK2,FIN⟩
        case measure=>simp[RowKit.intOf];omega
      ·have hcs':¬(c4:Int)<(s:Int):=by omega
       go_wp2
       go_meet
       exact⟨K,ka,kc,rfl,⟨by rw[HK.out.1];omega,HK.out.2⟩,M5⟩
    obtain⟨K,ka,kc,rfl,HK,M5⟩:=hcut
    clear M4
    have hKl:K.length≤4:=by have:=HK.out.1;omega
    have hm4:=HNK.out.2
    have MK:=hide (M5.out.ca.make (lv:Int) ka kc K (by omega) (own_zat M5.out.r2) (by omega))
    go_upto_region 31 with(go_at_call 22;refine MK.out.mono ?_;rintro e w7 ⟨f1,er1,N1,rfl,hm1,P1,hc1,hk1,hp1,_⟩;have HMK:=hide hm1;have HC1:=hide hc1;have HK1:=hide hk1;have HP1:=hide hp1;clear hm1 hc1 hk1 hp1)
    clear MK
    have MP:=M5.out.makeP HK1.out HP1.out
    have RK:=hide (MP.1.make (lv:Int) ka kc K (by omega) (own_zat MP.2.2.2.2.2.2.1))
    clear MP
    go_upto_region 32 with(go_at_call 28;refine RK.out.mono ?_;rintro e w8 ⟨f2,er2,N2,rfl,hm2,Q2,hr2,hk2,hq2,_⟩;obtain⟨e1,e2,e3⟩:=MkP.one M5.out.ca.ok.nod hm2 HMK.out;subst e1;subst e2;subst e3;have HR2:=hide hr2;have HK2:=hide hk2;have HQ2:=hide hq2;clear hm2 hr2 hk2 hq2)
    clear RK
    have FIN:=hide ((M5.out.makeQ HC1.out HK1.out HP1.out HR2.out HK2.out HQ2.out).turn.turn)
    have HN2:=hide (And.intro (Nat.le_trans (mk_len HMK.out) (Nat.succ_le_succ HNK.out.1)) (Nat.succ_le_succ HNK.out.2))
    clear HC1 HK1 HP1 HR2 HK2 HQ2 M5 HK HL RWC ZKS HSV
    go_wp2
    go_roundw
    case rel=>exact⟨k+1,_,_,_,_,by go_num,by omega,by omega,HN2,FIN⟩
    case measure=>simp[RowKit.intOf];omega
   ·by_cases ha:k<Ns.length
    ·have ha':(k:Int)<(Ns.length:Int):=by omega
     have h4':¬(k:Int)<400:=by omega
     go_wp2
     go_meet
     exact⟨N,m,P,Q,⟨by have:=HNK.out.1;omega,by have:=HNK.out.2;omega⟩,MD⟩
    ·have ha':¬(k:Int)<(Ns.length:Int):=by omega
     go_wp2
     go_meet
     exact⟨N,m,P,Q,⟨by have:=HNK.out.1;omega,by have:=HNK.out.2;omega⟩,MD⟩
 obtain⟨N,m,P,Q,HN4,MD⟩:=hcut
 go_upto_block 8 with fail
 have Y6:Hid (Below wc.heap.size wc (wc.alloc (.cells #[.pointer (some ⟨a,0,none⟩),.pointer (some ⟨x,0,none⟩),.slice none 0 0] 36))):=al (Below.refl _ _) _
 have B6:=hide (heap_alloc_new wc (.cells #[.pointer (some ⟨a,0,none⟩),.pointer (some ⟨x,0,none⟩),.slice none 0 0] 36))
 have M6:=hide (MD.out.below Y6.out)
 have NPB:Hid (¬P wc.heap.size∧¬Q wc.heap.size∧w1.heap.size≤wc.heap.size):=⟨fun hp=>absurd (MD.out.ca.plt hp) (Nat.lt_irrefl _),fun hq=>absurd (MD.out.ra.plt hq) (Nat.lt_irrefl _),MD.out.bel.size⟩
 have R0B:Hid (∀j,(Value.slice sa S.length sc).ownBlock=some j→j≠wc.heap.size):=fun j hj=>by have:=(own_low MD.out.r0 hj).2;omega
 have hN4:=HN4.out.1
 clear MD
 generalize wc.alloc (.cells #[.pointer (some ⟨a,0,none⟩),.pointer (some ⟨x,0,none⟩),.slice none 0 0] 36)=w6 at *
 generalize wc.heap.size=bb at *
 go_cut [] (fun wx=>∃k rs so rc,Hid (List.length rs=k∧k≤20∧∀f∈rs,hasR N f)∧Hid (wx.heap[bb]? =some (.cells #[.pointer (some ⟨a,0,none⟩),.pointer (some ⟨x,0,none⟩),.slice so k rc] 36 (0,0)))∧Hid (MdR w1 wx a x S N m P Q (.slice sa S.length sc) (.slice none 0 0) [] (.slice so k rc) rs))
 case first=>
  go_wp2
  go_loopw [22] (fun v22 wr=>∃(k:Nat) (rs:List Int) (so:Option Addr) (rc:Nat),v22=.int .i64 (k:Int)∧k≤Rt.length∧k≤20∧Hid (rs.length=k∧∀f∈rs,hasR N f)∧Hid (wr.heap[bb]? =some (.cells #[.pointer (some ⟨a,0,none⟩),.pointer (some ⟨x,0,none⟩),.slice so k rc] 36 (0,0)))∧Hid (MdR w1 wr a x S N m P Q (.slice sa S.length sc) (.slice none 0 0) [] (.slice so k rc) rs)) (fun v _=>20-(RowKit.intOf v).toNat)
  case atStart=>exact⟨0,[],none,0,rfl,Nat.zero_le _,Nat.zero_le _,⟨rfl,fun f hf=>by simp at hf⟩,B6,M6⟩
  case round=>
   obtain⟨k,rs,so,rc,rfl,hk,hk20,HR,BB,MD⟩:=hrel
   clear B6 M6
   obtain⟨d0,d1,d2⟩:=BX.out wr MD.out.bel
   by_cases hlk:k<Rt.length∧k<20
   ·have hlk':(k:Int)<(Rt.length:Int):=by omega
    have hlk2:(k:Int)<20:=by omega
    obtain⟨zb,zo,hro,hzb,q1⟩:=(HM.out.zr.below MD.out.bel).get hlk.1
    subst hro
    obtain⟨c,hcd⟩:∃c,Rt.getD k 0=c:=⟨_,rfl⟩
    rw[hcd] at q1
    have FC:Fit c:=by
     rw[←hcd,List.getD_eq_getElem?_getD,List.getElem?_eq_getElem hlk.1]
     exact HM.out.fr _ (List.getElem_mem _)
    have HCD:=hide hcd
    clear hcd
    have hk19:=hlk.2
    have hkR:=hlk.1
    clear hlk
    obtain⟨j,hjd⟩:∃j,pkZ c (N.length+2)=j:=⟨_,rfl⟩
    have hj:j<N.length+2:=by rw[←hjd];exact pkZ_lt _ (by omega)
    have PKA:Hid (∀V,Calls Try.prog 14 #[.int .i64 c,.int .i64 ((N.length:Int)+2)] V fun e w'=>e=.returned (.int .i64 (j:Int))∧w'=V):=fun V=>by
     have:=pick_any c (N.length+2) FC (by omega) (by omega) V
     rw[hjd] at this
     exact this
    clear hjd FC
    have ew:IntKind.i64.wrap ((N.length:Int)+2)=(N.length:Int)+2:=by simp[IntKind.wrap,IntKind.bits,IntKind.signed];omega
    have SQ:Hid (∀V,Below wr.heap.size wr V→V.cell? ⟨bb,2,none⟩=some (.slice so k rc)∧V.cell? ⟨w.heap.size,2,none⟩=some (.slice (some ⟨zb,zo,none⟩) Rt.length c3)∧V.cell? ⟨zb,zo+k,none⟩=some (.int .i64 c)):=fun V hV=>⟨by rw[cell_of_row V _ _ _ _ _ ((hV.block _ (lt_of_obj BB.out)).trans BB.out)];rfl,(BX.out V (bt MD.out.bel hV (Nat.le_refl _))).2.2,(hV.cell (p:=⟨zb,zo+k,none⟩) hzb).trans q1⟩
    go_upto_region 38 with fail
    clear d0 d1 d2 q1
    have XD:Hid (Below wr.heap.size wr wr.drew):=(Below.refl _ wr).drew
    refine wp_unt (S:=fun V=>V.cell? ⟨bb,2,none⟩=some (.slice so k rc)∧V.cell? ⟨w.heap.size,2,none⟩=some (.slice (some ⟨zb,zo,none⟩) Rt.length c3)∧V.cell? ⟨zb,zo+k,none⟩=some (.int .i64 c)) 18 (by kernel_rfl) ?_
    generalize wr.drew=wd at *
    have HS0:=hide (SQ.out wd XD.out)
    have MDd:=hide (MD.out.below XD.out)
    have LR:=hide MDd.out.ra.len
    refine UntH.tk 0 rfl 181 HS0.out (fun w' ⟨q0,q1,q2⟩=>by go_simp;first|done|rfl) ?_
    refine UntH.tk 1 rfl 182 HS0.out (fun w' ⟨q0,q1,q2⟩=>by go_simp;first|done|rfl) ?_
    refine UntH.tk 2 rfl 183 HS0.out (fun w' ⟨q0,q1,q2⟩=>by go_simp;first|done|rfl) ?_
    refine UntH.tk 3 rfl 184 HS0.out (fun w' ⟨q0,q1,q2⟩=>by go_simp;first|done|rfl) ?_
    refine UntH.tk 4 rfl 185 HS0.out (fun w' ⟨q0,q1,q2⟩=>by go_simp;first|done|rfl) ?_
    refine UntH.tk 5 rfl 186 HS0.out (fun w' ⟨q0,q1,q2⟩=>by go_simp;first|done|rfl) ?_
    refine UntH.tk 6 rfl 187 HS0.out (fun w' ⟨q0,q1,q2⟩=>by go_simp;first|done|rfl) ?_
    refine UntH.tk 7 rfl 188 HS0.out (fun w' ⟨q0,q1,q2⟩=>by go_simp;first|done|rfl) ?_
    refine UntH.tk 8 rfl 189 HS0.out (fun w' ⟨q0,q1,q2⟩=>by go_simp;first|done|rfl) ?_
    refine UntH.tk 9 rfl 190 HS0.out (fun w' ⟨q0,q1,q2⟩=>by go_simp;first|done|rfl) ?_
    refine UntH.tk 10 rfl 191 HS0.out (fun w' ⟨q0,q1,q2⟩=>by go_simp;first|done|rfl) ?_
    try simp only[Act.put,List.setIfInBounds_toArray,List.set_cons_zero,List.set_cons_succ]
    refine UntH.step (i:=11) (by kernel_rfl) rfl (fun K hK=>?_)
    go_simp
    refine LR.out.mono ?_
    rintro e w7 ⟨rfl,h⟩
    rw[h]
    refine hK _ _ HS0.out ?_
    clear hK K h
    try simp only[Act.put,List.setIfInBounds_toArray,List.set_cons_zero,List.set_cons_succ]
    refine UntH.tk 12 rfl 193 HS0.out (fun w' ⟨q0,q1,q2⟩=>by go_simp;first|done|rfl) ?_
    try simp only[Act.put,List.setIfInBounds_toArray,List.set_cons_zero,List.set_cons_succ]
    refine UntH.step (i:=13) (by kernel_rfl) rfl (fun K hK=>?_)
    go_simp
    refine(PKA.out wd).mono ?_
    rintro e w7 ⟨rfl,h⟩
    rw[h]
    refine hK _ _ HS0.out ?_
    clear hK K h
    try simp only[Act.put,List.setIfInBounds_toArray,List.set_cons_zero,List.set_cons_succ]
    have Y7:Hid (Below wd.heap.size wd (wd.alloc (.cells #[.int .i64 (j:Int)] 3))):=al (Below.refl _ _) _
    have HS1:=hide (SQ.out _ (bt XD.out Y7.out (Nat.le_refl _)))
    have SW8:Hid (w1.heap.size≤(wd.alloc (.cells #[.int .i64 (j:Int)] 3)).heap.size):=Nat.le_trans MDd.out.bel.size Y7.out.size
    have R7:Hid ((wd.alloc (.cells #[.int .i64 (j:Int)] 3)).ownsRow w1.heap.size 3 1 (.slice so k rc) k (zC rs)):=by
     have:=own_below MDd.out.r2 Y7.out
     rw[HR.out.1] at this
     exact this
    have BB7:=hide (((bt XD.out Y7.out (Nat.le_refl _)).block _ (lt_of_obj BB.out)).trans BB.out)
    have HNW:=hide (one_new wd (.int .i64 (j:Int)) 3)
    refine UntH.step (i:=14) (by kernel_rfl) rfl (fun K hK=>?_)
    go_simp
    refine hK _ _ HS1.out ?_
    clear hK K
    try simp only[Act.put,List.setIfInBounds_toArray,List.set_cons_zero,List.set_cons_succ]
    refine UntH.step (i:=15) (by kernel_rfl) rfl (fun K hK=>?_)
    refine step_append_lies _ (by rfl) (.tmp 185) (.tmp 195) 22 (by rfl) w1.heap.size 3 i3 (.int .i64 0) 1 8 Try.underlying22 hi3 hz30 hz31 hz32 rfl (by decide) _ k (zC rs) (by rfl) R7.out ⟨wd.heap.size,0,none⟩ 1 1 [.int .i64 (j:Int)] (by rfl) (by rfl) HNW.out (by simp[Value.oneCell']) (by decide) (by unfold maxLen;omega) (by omega) SW8.out _ rfl ?_
    intro g8 cap8 w8 h1 h2 h3 h4
    have O8:=hide h1
    have G8:=hide h2
    have H8:=hide h3
    have kg:=kept_grown h2
    have BB8:Hid (w8.heap[bb]? =some (.cells #[.pointer (some ⟨a,0,none⟩),.pointer (some ⟨x,0,none⟩),.slice so k rc] 36 (0,0))):=(kg.block bb (lt_of_obj BB7.out) (fun e=>by
     obtain⟨cs,h5⟩:=own_ty R7.out _ e
     exact ty_ne h5 BB7.out (by decide) rfl)).trans BB7.out
    have M8:=hide (MDd.out.push (z:=(j:Int)) Y7.out (by rw[HR.out.1];exact h1) h2 h3)
    have HS8:Hid (w8.cell? ⟨bb,2,none⟩=some (.slice so k rc)∧w8.cell? ⟨w.heap.size,2,none⟩=some (.slice (some ⟨zb,zo,none⟩) Rt.length c3)∧w8.cell? ⟨zb,zo+k,none⟩=some (.int .i64 c)):=⟨by rw[cell_of_row w8 _ _ _ _ _ BB8.out];rfl,(BX.out w8 M8.out.bel).2.2,by
     obtain⟨zb2,zo2,e9,_,q9⟩:=(HM.out.zr.below M8.out.bel).get hkR
     cases e9
     rw[HCD.out] at q9
     exact q9⟩
    refine hK _ _ HS8.out ?_
    clear hK K h1 h2 h3 h4 kg
    try simp only[Act.put,List.setIfInBounds_toArray]
    refine UntH.tk 16 rfl 197 HS8.out (fun w' ⟨q0,q1,q2⟩=>by go_simp;first|done|rfl) ?_
    try simp only[Act.put]
    refine UntH.tk 17 rfl 198 HS8.out (fun w' ⟨q0,q1,q2⟩=>by go_simp;first|done|rfl) ?_
    try simp only[Act.put]
    have q8:=HS8.out.1
    have f8:=frozen_of_row w8 bb 2 _ _ BB8.out
    refine UntH.last (by kernel_rfl) rfl (by kernel_rfl) (by kernel_rfl) (fun K hK=>?_)
    go_simp
    refine hK _ _ ?_
    clear hK K q8 f8 HS8 HS1 HS0 HNW R7 SQ
    have K9:Hid (Kept (fun j=>j=bb) w8 (w8.setCell ⟨bb,2,none⟩ (.slice (some ⟨g8,0,none⟩) (k+1) cap8))):=(Kept.refl (fun j=>j=bb) w8).setCell (p:=⟨bb,2,none⟩) rfl _
    have B9:Hid ((w8.setCell ⟨bb,2,none⟩ (.slice (some ⟨g8,0,none⟩) (k+1) cap8)).heap[bb]? =some (.cells #[.pointer (some ⟨a,0,none⟩),.pointer (some ⟨x,0,none⟩),.slice (some ⟨g8,0,none⟩) (k+1) cap8] 36 (0,0))):=by
     have:=block_setCell BB8.out 2 (.slice (some ⟨g8,0,none⟩) (k+1) cap8)
     simpa [Hid] using this
    have hl9:(rs++[(j:Int)]).length=k+1:=by simp[HR.out.1]
    have M9:Hid (MdR w1 (w8.setCell ⟨bb,2,none⟩ (.slice (some ⟨g8,0,none⟩) (k+1) cap8)) a x S N m P Q (.slice sa S.length sc) (.slice none 0 0) [] (.slice (some ⟨g8,0,none⟩) (k+1) cap8) (rs++[(j:Int)])):=by
     have h9:=M8.out.keep K9.out NPB.out.1 NPB.out.2.1 NPB.out.2.2 (fun e=>R0B.out _ e rfl) (fun e=>by cases e) (fun e=>by
      obtain⟨cs,h5⟩:=own_ty O8.out _ (by simpa [Value.ownBlock] using e)
      exact ty_ne h5 BB8.out (by decide) rfl)
     rw[hl9] at h9
     exact h9
    have H9:Hid ((rs++[(j:Int)]).length=k+1∧∀f∈rs++[(j:Int)],hasR N f):=⟨hl9,fun f hf=>by
     rcases List.mem_append.1 hf with h|h
     ·exact HR.out.2 f h
     ·rw[List.mem_singleton.1 h]
      exact⟨by omega,by omega⟩⟩
    clear hl9 K9 M8 BB8 O8 G8 H8 BB7 SW8 Y7 LR MDd XD BB MD HR PKA HCD
    generalize w8.setCell ⟨bb,2,none⟩ (.slice (some ⟨g8,0,none⟩) (k+1) cap8)=w9 at *
    go_wp2
    go_roundw
    case rel=>exact⟨k+1,rs++[(j:Int)],_,_,by go_num,by omega,by omega,H9,B9,M9⟩
    case measure=>simp[RowKit.intOf];omega
   ·by_cases ha:k<Rt.length
    ·have ha':(k:Int)<(Rt.length:Int):=by omega
     have h4':¬(k:Int)<20:=by omega
     go_wp2
     go_meet
     exact⟨k,rs,so,rc,⟨HR.out.1,hk20,HR.out.2⟩,BB,MD⟩
    ·have ha':¬(k:Int)<(Rt.length:Int):=by omega
     go_wp2
     go_meet
     exact⟨k,rs,so,rc,⟨HR.out.1,hk20,HR.out.2⟩,BB,MD⟩
 obtain⟨k,rs,so,rc,HR,BB,MD⟩:=hcut
 have c2:wc.cell? ⟨bb,2,none⟩=some (.slice so k rc):=by rw[cell_of_row wc _ _ _ _ _ BB.out];rfl
 by_cases hk0:k=0
 ·subst hk0
  have LR:=hide MD.out.ra.len
  have ew:IntKind.i64.wrap ((N.length:Int)+1)=(N.length:Int)+1:=by simp[IntKind.wrap,IntKind.bits,IntKind.signed];omega
  have Y7:Hid (Below wc.heap.size wc (wc.alloc (.cells #[.int .i64 ((N.length:Int)+1)] 3))):=al (Below.refl _ _) _
  have B7:=hide ((Y7.out.block _ (lt_of_obj BB.out)).trans BB.out)
  have c7:(wc.alloc (.cells #[.int .i64 ((N.length:Int)+1)] 3)).cell? ⟨bb,2,none⟩=some (.slice so 0 rc):=by rw[cell_of_row _ _ _ _ _ _ B7.out];rfl
  have f7:=frozen_of_row _ bb 2 _ _ B7.out
  go_wp2_with (go_at_call 26;refine LR.out.mono ?_;rintro e w10 ⟨rfl,h⟩;rw[h];clear h)
  have M7:=MD.out.below Y7.out
  have K9:Kept (fun j=>j=bb) (wc.alloc (.cells #[.int .i64 ((N.length:Int)+1)] 3)) ((wc.alloc (.cells #[.int .i64 ((N.length:Int)+1)] 3)).setCell ⟨bb,2,none⟩ (.slice (some ⟨wc.heap.size,0,none⟩) 1 1)):=(Kept.refl (fun j=>j=bb) _).setCell (p:=⟨bb,2,none⟩) rfl _
  have M9:=M7.keep K9 NPB.out.1 NPB.out.2.1 NPB.out.2.2 (fun e=>R0B.out _ e rfl) (fun e=>by cases e) (fun e=>by
   obtain⟨cs,h5⟩:=own_ty M7.r2 _ e
   exact ty_ne h5 B7.out (by decide) rfl)
  have R7:(wc.alloc (.cells #[.int .i64 ((N.length:Int)+1)] 3)).ownsRow w1.heap.size 3 1 (.slice (some ⟨wc.heap.size,0,none⟩) 1 1) 1 (zC [(N.length:Int)+1]):=⟨rfl,.inr ⟨wc.heap.size,1,_,rfl,MD.out.bel.size,heap_alloc_new wc _,Nat.le_refl _,by decide,rfl,rfl⟩⟩
  refine bodyPost_ret (v:=.tuple #[.pointer (some ⟨bb,0,none⟩),.bool true]) (by simp[results,Try.results9,go_sem];try rfl) rfl ?_
  refine⟨bb,a,x,some ⟨wc.heap.size,0,none⟩,1,S,N,[(N.length:Int)+1],rfl,⟨?_,⟨m,P,M9.ca⟩,own_zat (own_kept R7 K9 (fun j hj e=>?_)),fun f hf=>?_,by simp,HS7.out.1,HS7.out.2,by decide,by decide⟩,⟨Q,M9.ra⟩,hN4,bt X1.out M9.bel (Nat.le_refl _)⟩
  ·have:=block_setCell B7.out 2 (.slice (some ⟨wc.heap.size,0,none⟩) 1 1)
   simpa using this
  ·have:wc.heap.size=j:=by simpa [Value.ownBlock] using hj
   have:=lt_of_obj BB.out
   omega
  ·rw[List.mem_singleton.1 hf]
   exact⟨by omega,by omega⟩
 ·have hk1:¬(k:Int)=0:=by omega
  have hk2:((k:Int)==0)=false:=by simpa using hk0
  go_wp2
  have hl:=HR.out.1
  subst hl
  refine bodyPost_ret (v:=.tuple #[.pointer (some ⟨bb,0,none⟩),.bool true]) (by simp[results,Try.results9,go_sem];try rfl) rfl ?_
  exact⟨bb,a,x,so,rc,S,N,rs,rfl,⟨BB.out,⟨m,P,MD.out.ca⟩,own_zat MD.out.r2,HR.out.2.2,HR.out.2.1,HS7.out.1,HS7.out.2,by decide,by decide⟩,⟨Q,MD.out.ra⟩,hN4,bt X1.out MD.out.bel (Nat.le_refl _)⟩
end
end Go.Proofs.Ytnddhkhmbjeefaa

