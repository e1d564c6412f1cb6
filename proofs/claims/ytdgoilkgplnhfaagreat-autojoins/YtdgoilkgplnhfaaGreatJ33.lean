/-
  Of by its contract: the automaton of a pattern, or that it is none, or that there are more than 256 sets of places. Condition: sets no longer than a process can hold.
-/
import Derived.Deep.RegionHeld3
import Derived.Deep.DeepCutAuto
import Derived.Test.YtdgoilkgplnhfaaGreatJ30
import Derived.Test.YtdgoilkgplnhfaaGreatJ31
import Derived.Test.YtdgoilkgplnhfaaGreatJ32
namespace Go.Proofs.YtdgoilkgplnhfaaGreat
open Go.RowKit Go.Lib Go.Maps
def OfP (L:List Pc) (base:Nat) (e:Ending) (w:World):Prop:=
 (¬Rt L∧e=.returned (.tuple #[auV [] none 0 0 none 0 0,.int .i64 1]))∨(Rt L∧qhr L∧e=.returned (.tuple #[auV [] none 0 0 none 0 0,.int .i64 2]))∨
 (Rt L∧qlq L∧∃bs' xa xn xc oa on oc NX' OU',e=.returned (.tuple #[auV bs' xa xn xc oa on oc,.int .i64 0])∧Rws w base [(.slice xa xn xc,NX'),(.slice oa on oc,OU')]∧qbv bs' NX' OU'∧(dfA bs' NX' OU').Right∧OU'.length≤256∧∀t:By,(dfA bs' NX' OU').lab 0 (ntL t)=if mtF L t L.length then 1 else 0)
theorem qjx.shape {S:Type} {val:S→Array Value} {V:S→Prop} {z:S} {fo:S→Nat→S} {M base:Nat} {e:Ending} {w:World} (h:qjx val V z fo M base e w):∃v1 v2 b,e=.returned (.tuple #[v1,v2,.bool b]):=by
 rcases h with⟨sv,xv,_,_,rfl,_⟩|⟨rfl,_⟩
 ·exact⟨_,_,_,rfl⟩
 ·exact⟨_,_,_,rfl⟩
theorem qbd.few {base N:Nat} {lit:Nat→Lit} {v1 v2:Value} {num fst:List Nat} {w:World} (h:qbd base lit N v1 v2 num fst w):fst.length≤N:=
 qax N fst.length (gN fst) h.nf.fstlt (fun i h1 j h2 e=>by rw[←h.nf.numfst i h1,←h.nf.numfst j h2,e])
def ofO (n:Nat) (St:List (List Bool)):List Nat:=St.map fun B=>if plF B n then 1 else 0
theorem qe7 (n:Nat) (St:List (List Bool)):(ofO n St).length=St.length:=by simp[ofO]
theorem qj1 (n:Nat) (St:List (List Bool)) {z:List Bool} {i:Nat} (h:i<St.length):gN (ofO n St) i=if plF (gS z St i) n then 1 else 0:=by
 rw[qah (by rw[qe7];exact h),qb2 h];simp[ofO]
theorem qmi {num:List Nat} (h256:∀x∈num,x<256) {b:Nat} (hb:b<num.length):((qav num).getD b 0).toNat=gN num b:=by
 have h1:b<(qav num).length:=by unfold qav;rw[List.length_map];exact hb
 have:=h256 _ (List.getElem_mem hb);rw[qah hb];simp only[qav,List.getD_eq_getElem?_getD,List.getElem?_map,List.getElem?_eq_getElem hb,Option.map_some,Option.getD_some];simp;omega
section
variable {L:List Pc} {num fst:List Nat} {lit:Nat→Lit} {St:List (List Bool)} {NX:List Nat} {base:Nat} {v1 v2:Value} {w:World}
theorem qj2 (hd:qbd base lit 256 v1 v2 num fst w):∀x∈num,x<256:=fun x hx=>by
 obtain⟨i,hi,rfl⟩:=List.getElem_of_mem hx;have:=hd.nf.numlt i (by rw[←hd.len];exact hi);rw[qah hi] at this;have:=hd.few;omega
theorem qb4 (hd:qbd base lit 256 v1 v2 num fst w) {b:Nat} (hb:b<256):((qav num).getD b 0).toNat=gN num b∧gN num b<fst.length:=
 ⟨qmi (qj2 hd) (by rw[hd.len];exact hb),hd.nf.numlt b hb⟩
theorem qom (hd:qbd base lit 256 v1 v2 num fst w) (hE:ExD (plZ L) (plC L fst) fst.length St NX) (hS:St.length≤256) (n:Nat):qbv (qav num) NX (ofO n St):=by
 have h0:=(hd.nf.zero (by decide)).2;refine hE.may h0 hd.few (qe7 _ _) (by omega) (by unfold qav;rw[List.length_map,hd.len]) (fun b hb=>by rw[(qb4 hd hb).1];exact(qb4 hd hb).2) (fun x hx=>?_);unfold ofO at hx;obtain⟨B,_,rfl⟩:=List.mem_map.1 hx;split<;>omega
theorem of_run (hl:L.length≤64) (hlit:∀b c,b<256→c<256→lit b=lit c→qb9 (fun i=>tq L 256 0 (b*64+i))=qb9 (fun i=>tq L 256 0 (c*64+i))) (hd:qbd base lit 256 v1 v2 num fst w) (hE:ExD (plZ L) (plC L fst) fst.length St NX) (n:Nat) (t:By):(dfA (qav num) NX (ofO n St)).run 0 (ntL t)<St.length∧gS (plZ L) St ((dfA (qav num) NX (ofO n St)).run 0 (ntL t))=plL (mtF L t):=by
 have h0:=(hd.nf.zero (by decide)).2;obtain⟨h1,h2⟩:=hE.run (bs:=qav num) (OU:=ofO n St) h0 (qe7 _ _) (fun b hb=>by rw[(qb4 hd hb).1];exact(qb4 hd hb).2) hE.s0.1 (qc2 t);refine⟨h1,?_⟩;rw[h2,hE.s0.2];have e1:∀(u:List Nat) (B:List Bool),Txt u→u.foldl (fun x b=>plC L fst x ((qav num).getD b 0).toNat) B=u.foldl (fun x b=>plC L fst x (gN num b)) B:=by
  intro u
  induction u with
  |nil=>intro _ _;rfl
  |cons b u ih=>
   intro B hu;rw[List.foldl_cons,List.foldl_cons,(qb4 hd hu.tail.1).1];exact ih _ hu.tail.2
 rw[e1 _ _ (qc2 t),qjv hl hd.nf hlit _ _ (qc2 t)];exact qjq hl t _
theorem qon (hl:L.length≤64) (hlit:∀b c,b<256→c<256→lit b=lit c→qb9 (fun i=>tq L 256 0 (b*64+i))=qb9 (fun i=>tq L 256 0 (c*64+i))) (hd:qbd base lit 256 v1 v2 num fst w) (hE:ExD (plZ L) (plC L fst) fst.length St NX) (t:By):(dfA (qav num) NX (ofO L.length St)).lab 0 (ntL t)=if mtF L t L.length then 1 else 0:=by
 obtain⟨h1,h2⟩:=of_run hl hlit hd hE L.length t;show((gN (ofO L.length St) _:Nat):Int)=_;rw[qj1 L.length St (z:=plZ L) h1,h2,qjn _ (by omega)];split<;>rfl
theorem qoo (hl:L.length≤64) (hlit:∀b c,b<256→c<256→lit b=lit c→qb9 (fun i=>tq L 256 0 (b*64+i))=qb9 (fun i=>tq L 256 0 (c*64+i))) (hd:qbd base lit 256 v1 v2 num fst w) (hE:ExD (plZ L) (plC L fst) fst.length St NX) (hS:St.length≤256):qlq L:=
 ⟨St,hS,fun t=>⟨_,of_run hl hlit hd hE L.length t⟩⟩
end
theorem qlt:∃lit:List Bool→Lit,∀B,B.length=65→keyOf Tryz.prog 80 (.agg (mk (plF B)))=some (lit B):=by
 classical
 refine⟨fun B=>if h:B.length=65 then(qhs B h).choose else .bool false,fun B h=>?_⟩;simp only[dif_pos h];exact(qhs B h).choose_spec
set_option maxRecDepth 100000 in
set_option maxHeartbeats 8000000 in
theorem qop (ao:Option Addr) (cap:Nat) (D:List PD) (w:World) (hLen:∀d∈D,d.p.set.length≤140737488351232) (hat:qe2 w ao D):
 Calls Tryz.prog 20 #[.slice ao D.length cap] w fun e w'=>OfP (D.map PD.p) w.heap.size e w'∧Below w.heap.size w w':=by
 obtain⟨w2,hw2⟩:∃w2,w2=(w.alloc (.cells #[.slice ao D.length cap] 39)).alloc (.cells #[.string ⟨#[]⟩,.slice none 0 0,.slice none 0 0] 24):=⟨_,rfl⟩;obtain⟨X2,B1,B2,hs2⟩:=qap w #[.slice ao D.length cap] #[.string ⟨#[]⟩,.slice none 0 0,.slice none 0 0] 39 24;rw[←hw2] at X2 B1 B2 hs2;have HC:Hid (∀V,Below w2.heap.size w2 V→V.cell? ⟨w.heap.size,0,none⟩=some (.slice ao D.length cap)∧V.heap[w.heap.size+1]? =some (.cells #[.string ⟨#[]⟩,.slice none 0 0,.slice none 0 0] 24 (0,0))∧qe2 V ao D∧w.heap.size<V.heap.size):=fun V x=>by
  have Bv:=(x.block _ (lt_of_block B1)).trans B1;exact⟨by rw[cell_of_row _ _ _ _ _ _ Bv];rfl,(x.block _ (lt_of_block B2)).trans B2,hat.below (bt X2 x (Nat.le_refl _)),lt_of_block Bv⟩
 have HX2:=qaa X2;have HS2:=qaa hs2;obtain⟨c0,_,kat,_⟩:=HC.out w2 (Below.refl _ _);have HMT:=qaa (qfv ao cap D [] w2 (by simp) hLen kat);have HLEN:=qaa hLen;have HI:Hid ((Tryz.prog.info? 24).map (·.size)=some 3):=by unfold Hid;kernel_rfl
 clear X2 B1 B2 hs2 hat kat hLen;go_enter Tryz.func20,Tryz.ntmps20;go_upto_region 1 with fail
 rw[←hw2];clear hw2;go_wp2_with (fail);refine HMT.out.mono ?_;rintro e w3 ⟨hmt,x3⟩;have X3:=qaa x3;clear HMT c0 x3;obtain⟨c0,B3,kat,_⟩:=HC.out w3 X3.out;have HB3:=qaa B3;rcases hmt with⟨hR,rfl⟩|⟨hR,rfl⟩
 ·have hl:D.length≤64:=by have:=hR.1;rwa [List.length_map] at this
  have HTG:=qaa (qg9 ao cap D w3 hR HLEN.out kat);have HR:=qaa hR;clear kat B3 hR;go_upto_region 5 with(go_at_call 41;refine HTG.out.mono ?_;rintro e w4 ⟨rfl,b4,x4⟩;have B4:=qaa b4;have X4:=qaa (bt X3.out x4 (Nat.le_refl _));clear x4 b4)
  have X5:Below w4.heap.size w4 (w4.alloc (.cells #[.slice (some ⟨w3.heap.size,0,none⟩) 256 256] 67)):=al (Below.refl _ _) _;have B5:=heap_alloc_new w4 (.cells #[.slice (some ⟨w3.heap.size,0,none⟩) 256 256] 67);obtain⟨w5,hw5⟩:∃w5,w5=w4.alloc (.cells #[.slice (some ⟨w3.heap.size,0,none⟩) 256 256] 67):=⟨_,rfl⟩;obtain⟨p6,hp6⟩:∃p6,p6=w4.heap.size:=⟨_,rfl⟩;obtain⟨tg,htg⟩:∃tg,tg=w3.heap.size:=⟨_,rfl⟩;rw[←hw5] at X5 B5 ⊢;rw[←hp6] at B5 ⊢;rw[←htg] at B5 B4 ⊢;have HW5:=qaa (bt X4.out X5 (Nat.le_refl _));have HK5:Hid (∀V,Below w5.heap.size w5 V→V.cell? ⟨p6,0,none⟩=some (.slice (some ⟨tg,0,none⟩) 256 256)∧p6<V.heap.size∧V.heap[tg]? =some (.cells (mkb 16384 (tq (D.map PD.p) 256 0)) 73 (0,0))):=fun V x=>by
   have Bv:=(x.block _ (lt_of_block B5)).trans B5;have B4':=(X5.block _ (lt_of_block B4.out)).trans B4.out;exact⟨by rw[cell_of_row _ _ _ _ _ _ Bv];rfl,lt_of_block Bv,(x.block _ (lt_of_block B4')).trans B4'⟩
  clear hw5 hp6 htg X5 B5 B4 HTG c0;have hlk:∀b:Nat,∃l,keyOf Tryz.prog 73 (.agg (qb9 fun i=>tq (D.map PD.p) 256 0 (b*64+i)))=some l:=fun b=>by
   have e:(qb9 fun i=>tq (D.map PD.p) 256 0 (b*64+i))=(((List.range 64).map fun i=>tq (D.map PD.p) 256 0 (b*64+i)).map fun(x:Bool)=>Value.bool x).toArray:=by unfold qb9;rw[List.map_map];rfl
   rw[e];exact qfl _ (by simp)
  obtain⟨lit,hlit⟩:∃lit:Nat→Lit,∀b,keyOf Tryz.prog 73 (.agg (qb9 fun i=>tq (D.map PD.p) 256 0 (b*64+i)))=some (lit b):=⟨fun b=>(hlk b).choose,fun b=>(hlk b).choose_spec⟩;have HLI:Hid (∀b c,b<256→c<256→lit b=lit c→qb9 (fun i=>tq (D.map PD.p) 256 0 (b*64+i))=qb9 (fun i=>tq (D.map PD.p) 256 0 (c*64+i))):=fun b c _ _ e=>by
   have h1:=hlit b;rw[e] at h1;have:=qdz.inj h1 (hlit c);injection this
  have HN:Hid (Calls Tryz.prog 42 #[.int .i64 256,.func (.func 43) #[] #[.pointer (some ⟨p6,0,none⟩)]] w5 fun e w'=>(∃v1 v2,e=.returned (.tuple #[v1,v2])∧∃num fst,qbd w5.heap.size lit 256 v1 v2 num fst w')∧Below w5.heap.size w5 w'):=
   qk7 256 (.pointer (some ⟨p6,0,none⟩)) (fun b=>qb9 fun i=>tq (D.map PD.p) 256 0 (b*64+i)) lit w5 (by decide) (fun i _=>hlit i) (fun i _=>qca _) (fun i _=>qhp _) (fun i _=>qdz.key (hlit i)) (fun i hi V x=>by
    obtain⟨k1,k2,k3⟩:=HK5.out V x;exact qnh i p6 tg _ V hi k1 k2 k3)
  clear hlk hlit;go_upto_region 6 with(go_at_call 42;refine HN.out.mono ?_;rintro e w6 ⟨⟨v1,v2,rfl,num,fst,hd⟩,x6⟩;obtain⟨a1,k1,hv1,_⟩:=qag (show w6.ownsRow _ 3 1 _ num.length (qab num) from hd.o1);obtain⟨a2,k2,hv2,_⟩:=qag (show w6.ownsRow _ 3 1 _ fst.length (qab fst) from hd.o2);subst hv1 hv2;have HD:=qaa hd;have X6:=qaa x6;clear x6 hd)
  have X7:Below w6.heap.size w6 (w6.alloc (.cells #[.slice a2 fst.length k2] 22)):=al (Below.refl _ _) _;have B7:=heap_alloc_new w6 (.cells #[.slice a2 fst.length k2] 22);obtain⟨w7,hw7⟩:∃w7,w7=w6.alloc (.cells #[.slice a2 fst.length k2] 22):=⟨_,rfl⟩;obtain⟨p8,hp8⟩:∃p8,p8=w6.heap.size:=⟨_,rfl⟩;rw[←hw7] at X7 B7 ⊢;rw[←hp8] at B7 ⊢;have HX57:=qaa (bt X6.out X7 (Nat.le_refl _));have HX27:=qaa (bt HW5.out HX57.out (Nat.le_refl _));have HFL:Hid (fst.length≤256):=HD.out.few;have HK7:Hid (∀V,Below w7.heap.size w7 V→(V.cell? ⟨w.heap.size,0,none⟩=some (.slice ao D.length cap)∧V.cell? ⟨p8,0,none⟩=some (.slice a2 fst.length k2))∧w.heap.size<V.heap.size∧p8<V.heap.size∧qe2 V ao D∧NAt V a2 fst∧(V.cell? ⟨p6,0,none⟩=some (.slice (some ⟨tg,0,none⟩) 256 256)∧p6<V.heap.size∧V.heap[tg]? =some (.cells (mkb 16384 (tq (D.map PD.p) 256 0)) 73 (0,0)))∧V.heap[w.heap.size+1]? =some (.cells #[.string ⟨#[]⟩,.slice none 0 0,.slice none 0 0] 24 (0,0))∧qan V w5.heap.size (.slice a1 num.length k1) num):=fun V x=>by
   have x67:=bt X7 x (Nat.le_refl _);have Bv:=(x.block _ (lt_of_block B7)).trans B7;obtain⟨q0,q1,q2,q3⟩:=HC.out V (bt HX27.out x (Nat.le_refl _));have o2:qan V w5.heap.size (.slice a2 fst.length k2) fst:=own_below HD.out.o2 x67;exact⟨⟨q0,by rw[cell_of_row _ _ _ _ _ _ Bv];rfl⟩,q3,lt_of_block Bv,q2,o2.nat,HK5.out V (bt HX57.out x (Nat.le_refl _)),q1,own_below HD.out.o1 x67⟩
  clear hw7 hp8 X7 B7 HN HK5;obtain⟨lit2,hlit2⟩:=qlt;have HEX:Hid (∀V,Below w7.heap.size w7 V→Calls Tryz.prog 44 #[.agg (mk (plF (plZ (D.map PD.p)))),.int .i64 (fst.length:Nat),.func (.func 46) #[] #[.pointer (some ⟨w.heap.size,0,none⟩),.pointer (some ⟨p6,0,none⟩),.pointer (some ⟨p8,0,none⟩)]] V fun e w'=>qjx (fun B=>mk (plF B)) (fun B=>B.length=65) (plZ (D.map PD.p)) (plC (D.map PD.p) fst) fst.length V.heap.size e w'∧Below V.heap.size V w'):=fun V x=>
   qlr fst.length _ _ _ (plZ (D.map PD.p)) (fun B=>mk (plF B)) lit2 (fun B=>B.length=65) (plC (D.map PD.p) fst) V HFL.out (qg8 _) (fun _ _ _ _=>qg8 _) (fun B _=>qaq _) (fun B _=>qcy _) hlit2 (fun B hB=>qcn.key (hlit2 B hB)) (fun A B hA hB e=>by
    have h1:=hlit2 A hA;rw[e] at h1;have h2:=qcn.inj h1 (hlit2 B hB);injection h2 with h2
    exact qof hA hB h2) (fun B c hB hc W y=>by
    obtain⟨⟨q0,q1⟩,l0,l1,kat,kn,⟨h1,h2,h3⟩,_,_⟩:=HK7.out W (bt x y (Nat.le_refl _));have hf:fst[c]? =some (gN fst c):=by rw[List.getElem?_eq_getElem hc,qah hc]
    have:=qni ao cap k2 c (gN fst c) w.heap.size p6 p8 tg a2 fst D (plF B) (tq (D.map PD.p) 256 0) W hl hf (HD.out.nf.fstlt c hc) kat kn q0 h1 q1 l0 h2 l1 h3;refine this.mono ?_;rintro e w' ⟨rfl,z⟩;refine⟨?_,z⟩;unfold plC;rw[qmf,List.length_map])
  have HBG:Hid (∀V,Below w7.heap.size w7 V→Calls Tryz.prog 45 #[.slice ao D.length cap] V fun e w'=>e=.returned (.agg (mk (plF (plZ (D.map PD.p)))))∧Below V.heap.size V w'):=fun V x=>by
   refine(qe4 ao cap D V hl (HK7.out V x).2.2.2.1).mono ?_;rintro e w' ⟨rfl,z⟩;refine⟨?_,z⟩;unfold plZ;rw[qmf,List.length_map]
  obtain⟨bz,hbz⟩:∃bz,Hid (bz=mk (plF (plZ (D.map PD.p)))):=⟨_,rfl⟩;rw[←hbz.out] at HEX HBG;obtain⟨⟨g0,g1⟩,_⟩:=HK7.out w7 (Below.refl _ _);clear hlit2;go_cut [9,10,11] (fun s1 s2 s3 wx=>∃b:Bool,s3=.bool b∧∃V:World,Hid (qjx (fun B=>mk (plF B)) (fun B=>B.length=65) (plZ (D.map PD.p)) (plC (D.map PD.p) fst) fst.length V.heap.size (.returned (.tuple #[s1,s2,.bool b])) wx)∧Hid (Below w7.heap.size w7 wx)∧Hid (w7.heap.size≤V.heap.size))
  case first=>
   as_aux_lemma=>
    go_region_held3 (fun V=>V.cell? ⟨w.heap.size,0,none⟩=some (.slice ao D.length cap)∧V.cell? ⟨p8,0,none⟩=some (.slice a2 fst.length k2)) (first|assumption|exact⟨g0,g1⟩|exact(HK7.out _ (Below.refl _ _).drew).1|exact(HK7.out _ Y8.out).1|exact(HK7.out _ Y9.out).1)
     (first
       |(go_at_call 45;refine(HBG.out _ (Below.refl _ _).drew).mono ?_;rintro e w8 ⟨rfl,x8⟩;have Y8:Hid (Below w7.heap.size w7 w8):=(Below.refl _ _).drew.trans x8;clear x8)
       |(go_at_call 44;refine(HEX.out _ Y8.out).mono ?_;rintro e w9 ⟨hex,x9⟩;obtain⟨v1,v2,b,rfl⟩:=hex.shape;have HE:=qaa hex;have Y9:=qaa (bt Y8.out x9 (Nat.le_refl _));clear x9 hex))
    all_goals
     go_wp2;go_meet;exact⟨_,rfl,w8,HE,Y9,Y8.out.size⟩
  case rest=>
   obtain⟨b,rfl,V,HE,Y9,HVS⟩:=hcut;obtain⟨_,_,_,_,_,_,BR,_⟩:=HK7.out wc Y9.out;have HBR:=qaa BR;have HXW:=qaa (bt HX2.out (bt HX27.out Y9.out (Nat.le_refl _)) (Nat.le_refl _));cases b with
   |false=>
    as_aux_lemma=>
     have hM:qhr (D.map PD.p)∧Value.tuple #[u9,u10,Value.bool false]=Value.tuple #[.slice none 0 0,.slice none 0 0,.bool false]:=by
      rcases HE.out with⟨sv,xv,_,_,e,_⟩|⟨e,St,h1,h2,h3⟩
      ·injection e with e;injection e with e;simp at e
      ·refine⟨⟨St,h1,by rw[h1] at h2;exact h2,fun a ha=>?_⟩,by injection e⟩
       obtain⟨u,k1,k2⟩:=h3 a (by rw[h1];exact ha);obtain⟨e1,e2⟩:=qhq (by rw[List.length_map];exact hl) HD.out.nf HLI.out u (plZ (D.map PD.p)) k1;exact⟨qav (u.map (gN fst)),by rw[←k2,e1,qnj (by rw[List.length_map];exact hl) e2]⟩
     obtain⟨hMn,_⟩:=hM;have HMN:=qaa hMn;have A0:Hid ((#[.string ⟨#[]⟩,.slice none 0 0,.slice none 0 0]:Array Value).all (·.oneCell')=true):=by unfold Hid;simp[Value.oneCell']
     have B6:=setRow_heap wc (w.heap.size+1) _ #[.string ⟨#[]⟩,.slice none 0 0,.slice none 0 0] 24 (0,0) BR;have k6:Kept (fun k=>k=w.heap.size+1) wc (wc.setRow (w.heap.size+1) #[.string ⟨#[]⟩,.slice none 0 0,.slice none 0 0]):=qas;have X9:=qaa (HXW.out.trans (k6.below HXW.out.size (fun b hb=>by omega)));have z0:=cell_of_row _ _ 0 _ _ _ B6;have z1:=cell_of_row _ _ 1 _ _ _ B6;have z2:=cell_of_row _ _ 2 _ _ _ B6;clear B6 k6 BR hMn;go_wp2_with (refine wpList_store_row rfl 24 (.tmp 2) (.tmp 42) rfl (w.heap.size+1) #[.string ⟨#[]⟩,.slice none 0 0,.slice none 0 0] rfl rfl 24 #[.string ⟨#[]⟩,.slice none 0 0,.slice none 0 0] HBR.out HI.out rfl A0.out ?_);refine bodyPost_ret (by simp[results,Tryz.results20,go_sem,z0,z1,z2];try rfl) rfl ?_;exact⟨.inr (.inl ⟨HR.out,HMN.out,rfl⟩),X9.out⟩
   |true=>
    as_aux_lemma=>
     obtain⟨St,NX,hED,hSt,hV,o1,o2⟩:∃St NX,ExD (plZ (D.map PD.p)) (plC (D.map PD.p) fst) fst.length St NX∧St.length≤256∧(∀B∈St,B.length=65)∧wc.ownsRow V.heap.size 80 65 u9 St.length (oC (fun B=>mk (plF B)) St)∧qan wc V.heap.size u10 NX:=by
      rcases HE.out with⟨sv,xv,St,NX,e,h1,h2,h3,h4,h5,_⟩|⟨e,_⟩
      ·injection e with e
       injection e with e
       simp only[Array.mk.injEq,List.cons.injEq] at e;rw[e.1,e.2.1];exact⟨St,NX,h1,h2,h3,h4,h5⟩
      ·injection e with e
       injection e with e
       simp at e
     obtain⟨sa,sc,hu9,hsa⟩:=qag o1;obtain⟨xa,xc,hu10,_⟩:=qag (show wc.ownsRow _ 3 1 _ NX.length (qab NX) from o2);subst hu9 hu10;obtain⟨sg,hsg⟩:=hsa hED.s0.1;subst hsg;have HED:=qaa hED;have HVV:=qaa hV;have HMAY:=qaa (qom HD.out hED hSt D.length);have HKC:Hid (∀W,Below wc.heap.size wc W→(W.cell? ⟨w.heap.size,0,none⟩=some (.slice ao D.length cap)∧w.heap.size<W.heap.size)∧W.heap[w.heap.size+1]? =some (.cells #[.string ⟨#[]⟩,.slice none 0 0,.slice none 0 0] 24 (0,0))∧NAt W a1 num∧NAt W xa NX∧∀i (h:i<St.length) j v,(mk (plF St[i]))[j]? =some v→W.cell? ((⟨sg,i*65,none⟩:Addr).add j)=some v):=fun W y=>by
      obtain⟨⟨q0,_⟩,l0,_,_,_,_,qr,qn⟩:=HK7.out W (bt Y9.out y (Nat.le_refl _));refine⟨⟨q0,l0⟩,qr,qn.nat,(qan.nat (own_below o2 y)),fun i hi j v hv=>?_⟩;rcases o1.2 with⟨_,e1⟩|⟨g,cp,cur,e1,hb,hg,hnc,hcm,hcs,htake⟩
      ·omega
      ·injection e1 with e1 e2 e3
       injection e1 with e1
       injection e1 with e1
       subst e1;have hj:j<65:=by
        apply Nat.lt_of_not_le;intro hle;rw[Array.getElem?_eq_none (by rw[qaq];exact hle)] at hv;cases hv
       have h2:=qfn (val:=fun B=>mk (plF B)) (K:=65) St (fun s hs=>qaq _) i hi j hj;rw[hv,←htake,List.getElem?_take,if_pos (qcd hi hj)] at h2;rw[addr_add,cell_of_row _ _ _ _ _ _ ((y.block _ (lt_of_block hg)).trans hg)];simpa using h2
     obtain⟨i3,hi3,hz30,hz31,hz32⟩:=info_parts Tryz.info3n;obtain⟨hzv,hsz⟩:=zero_of_info Tryz.info80;obtain⟨zz,hzz⟩:∃zz:Array Value,Hid (zz=mk fun _=>false):=⟨_,rfl⟩;have HZS:Hid (zz.size=65):=by unfold Hid;rw[hzz.out,qaq]
     rw[←hzz.out] at hzv;have HSZ:=qaa hsz;obtain⟨O0,hO0⟩:∃O,Hid (O=ofO D.length St):=⟨_,rfl⟩;have hOl:O0.length=St.length:=by rw[hO0.out,qe7]
     clear o1 o2 hED hV HE hsz BR;go_wp2_with (at_make;refine wpList_make_full _ rfl (.tmp 44) (.tmp 44) 22 rfl wc.heap.size 3 i3 (.int .i64 0) 1 Tryz.underlying22 hi3 hz30 hz31 .i64 .i64 _ _ St.length rfl rfl rfl rfl (by rw[hz32];omega) (by unfold maxLen;omega) (Nat.le_refl _) ?_;intro wm h1 h2;have XM0:=qaa (qad h2);have OM0:Hid (qan wm wc.heap.size (.slice (some ⟨wc.heap.size,0,none⟩) St.length St.length) (O0.take 0++List.replicate (St.length-0) 0)):=(by unfold Hid qan;rw[qbs] at h1;simpa using h1);clear h1 h2);go_loopg [48] (St.length+1) (fun g x wr=>∃i:Nat,x=.int .i64 (i:Nat)∧i≤St.length∧Hid (qan wr wc.heap.size (.slice (some ⟨wc.heap.size,0,none⟩) St.length St.length) (O0.take i++List.replicate (St.length-i) 0))∧Hid (Below wc.heap.size wc wr)∧St.length-i<g)
     case atStart=>exact⟨0,rfl,by omega,OM0,XM0,by omega⟩
     case round=>
      obtain⟨i,rfl,hi1,O,XB,hg⟩:=hrel;have HG:=qaa hg;clear hg OM0 XM0;by_cases hi:i<St.length
      ·as_aux_lemma=>
       have hi':(i:Int)<(St.length:Int):=by omega
       obtain⟨_,_,_,_,hrow⟩:=HKC.out wr XB.out;have HRW:=qaa (hrow i hi);obtain⟨m,hm⟩:∃m,Hid (m=mk (plF St[i])):=⟨mk (plF St[i]),qaa rfl⟩;rw[←hm.out] at HRW;have HIM:Hid ((Tryz.prog.info? 80).map (·.size)=some m.size):=by unfold Hid;rw[HSZ.out,hm.out,qaq]
       have HZ2:Hid (zz.size=m.size):=by unfold Hid;rw[HZS.out,hm.out,qaq]
       have HAL:Hid (m.all (·.oneCell')=true):=by unfold Hid;rw[hm.out];exact qcy _
       have HBZ:=qaa (heap_alloc_new wr (.cells zz 80));have HBM:=heap_alloc_new wr (.cells m 80);have y3:Below wr.heap.size wr (wr.alloc (.cells m 80)):=al (Below.refl _ _) _;have X4:=qaa (bt XB.out y3 (Nat.le_refl _));obtain⟨⟨c0,_⟩,_⟩:=HKC.out _ X4.out;have hm1:(wr.alloc (.cells m 80)).cell? ⟨wr.heap.size,D.length,none⟩=some (.bool (plF St[i] D.length)):=by rw[cell_of_row _ _ _ _ _ _ HBM,hm.out];exact qb8 _ _ (by omega)
       have O4:qan (wr.alloc (.cells m 80)) wc.heap.size (.slice (some ⟨wc.heap.size,0,none⟩) St.length St.length) (O0.take i++List.replicate (St.length-i) 0):=own_below O.out y3;have hll:(O0.take i++List.replicate (St.length-i) 0).length=St.length:=by simp;omega
       have hO0l:i<O0.length:=by omega
       have e3:(O0.take i++List.replicate (St.length-i) 0).set i O0[i]=O0.take (i+1)++List.replicate (St.length-(i+1)) 0:=by
        rw[List.set_append_right _ _ (by simp;omega),List.take_succ_eq_append_getElem hO0l,List.append_assoc]
        congr 1
        obtain⟨q,hq⟩:∃q,St.length-i=q+1:=⟨St.length-i-1,by omega⟩;rw[hq,show St.length-(i+1)=q by omega,show i-(O0.take i).length=0 by simp;omega];rfl
       have hO0i:O0[i]=if plF St[i] D.length then 1 else 0:=by
        have h9:gN O0 i=O0[i]:=qah hO0l;rw[←h9,hO0.out,qj1 D.length St (z:=[]) hi,qb2 hi]
       have hD65:(D.length:Int)<65:=by omega
       have bb3:∃bb,bb=wr.heap.size:=⟨_,rfl⟩;have HBM:=qaa HBM;have HO4:=qaa O4;clear y3 hrow O4;go_upto_region 13 with(first
        |(refine qbr rfl 80 (.tmp 51) rfl ⟨sg,i*65,none⟩ rfl m _ HRW.out Tryz.underlying80 rfl HIM.out ?_)
        |(refine wpList_store_row rfl 80 (.tmp 14) (.tmp 52) rfl wr.heap.size m rfl rfl 80 zz HBZ.out HIM.out HZ2.out HAL.out ?_;rw[World.setRow_alloc_new]))
       generalize wr.alloc (.cells m 80)=w5 at *;obtain⟨bb,hbb⟩:=bb3;rw[←hbb] at hm1 HBM ⊢;clear hbb HBZ HRW;cases hb:plF St[i] D.length with
       |false=>
        rw[hb] at hm1 hO0i;have ON:Hid (qan w5 wc.heap.size (.slice (some ⟨wc.heap.size,0,none⟩) St.length St.length) (O0.take (i+1)++List.replicate (St.length-(i+1)) 0)):=by
         unfold Hid;rw[←e3,hO0i];have e4:(O0.take i++List.replicate (St.length-i) 0).set i (if false=true then 1 else 0)=O0.take i++List.replicate (St.length-i) 0:=by
          rw[List.set_append_right _ _ (by simp;omega)]
          congr 1
          obtain⟨q,hq⟩:∃q,St.length-i=q+1:=⟨St.length-i-1,by omega⟩;rw[hq,show i-(O0.take i).length=0 by simp;omega];rfl
         rw[e4];exact HO4.out
        clear e3 hO0i hll hb;go_wp2;go_roundg (St.length-(i+1)+1)
        case measure=>have:=HG.out;omega
        case rel=>exact⟨i+1,by first|rfl|go_num|(congr 1;omega),by omega,ON,X4,by omega⟩
       |true=>
        rw[hb] at hm1 hO0i;obtain⟨⟨u1,q1⟩,q2⟩:=slotN HO4.out (i:=i) (by omega);obtain⟨o3,k3⟩:=HO4.out.store i 1;have e5:O0[i]=1:=hO0i;rw[←e5,e3] at o3;rw[e5] at o3;have ON:=qaa o3;have X5:=qaa (X4.out.trans (k3.below X4.out.size (fun k hk=>by omega)));clear e3 hO0i hll hb o3 k3 e5;go_wp2;go_roundg (St.length-(i+1)+1)
        case measure=>have:=HG.out;omega
        case rel=>exact⟨i+1,by first|rfl|go_num|(congr 1;omega),by omega,ON,X5,by omega⟩
      ·as_aux_lemma=>
       have hi':¬(i:Int)<(St.length:Int):=by omega
       obtain rfl:i=St.length:=by omega
       have o4:qan wr wc.heap.size (.slice (some ⟨wc.heap.size,0,none⟩) St.length St.length) O0:=by have:=O.out;rwa [Nat.sub_self,List.replicate_zero,List.append_nil,List.take_of_length_le (by omega)] at this
       obtain⟨_,_,kn,_,_⟩:=HKC.out wr XB.out;have HBC:=qaa (qbn a1 k1 num wr (by rw[HD.out.len];decide) (qj2 HD.out) kn);have HOF:Hid (∀W,Below wr.heap.size wr W→Calls Tryz.prog 34 #[.agg #[.string ⟨(qav num).toArray⟩,.slice xa NX.length xc,.slice (some ⟨wc.heap.size,0,none⟩) St.length St.length]] W fun e w'=>qhb (qav num) NX O0 W.heap.size e w'∧Below W.heap.size W w'):=fun W y=>by
        obtain⟨_,_,_,kx,_⟩:=HKC.out W (bt XB.out y (Nat.le_refl _));have hM:=HMAY.out;rw[←hO0.out] at hM;have:=qcf (qav num) xa (some ⟨wc.heap.size,0,none⟩) xc St.length NX O0 W hM kx (qan.nat (own_below o4 y));rw[hOl] at this;exact this
       have HNW:Hid (w.heap.size+1<wc.heap.size):=lt_of_block HBR.out;clear kn o4;go_wp2_with (go_at_call 48;refine HBC.out.mono ?_;rintro e w4 ⟨rfl,x4⟩;have X4:=qaa x4;clear x4 HBC);refine(HOF.out _ X4.out).mono ?_;rintro e w5 ⟨hP,x5⟩;obtain⟨bs',ya,yn,yc,oa',on,oc',mm,rfl⟩:=hP.shape;have X5:=qaa (bt XB.out (bt X4.out x5 (Nat.le_refl _)) (Nat.le_refl _));obtain⟨_,B4,_⟩:=HKC.out w5 X5.out;have A4:Hid ((#[.string ⟨bs'.toArray⟩,.slice ya yn yc,.slice oa' on oc']:Array Value).all (·.oneCell')=true):=by unfold Hid;simp[Value.oneCell']
       have HB4:=qaa B4;have B6:=setRow_heap w5 (w.heap.size+1) _ #[.string ⟨bs'.toArray⟩,.slice ya yn yc,.slice oa' on oc'] 24 (0,0) B4;have k6:Kept (fun k=>k=w.heap.size+1) w5 (w5.setRow (w.heap.size+1) #[.string ⟨bs'.toArray⟩,.slice ya yn yc,.slice oa' on oc']):=qas;have x9:=bt HXW.out X5.out (Nat.le_refl _);have X9:=qaa (x9.trans (k6.below x9.size (fun b hb=>by omega)));have hs4:=X4.out.size;have hs3:=XB.out.size;have hsw:=HNW.out;have HP6:=qaa (hP.kept k6 (by omega) (show w.heap.size≤w4.heap.size by omega));have z0:=cell_of_row _ _ 0 _ _ _ B6;have z1:=cell_of_row _ _ 1 _ _ _ B6;have z2:=cell_of_row _ _ 2 _ _ _ B6;clear B6 k6 B4 x9 x5 hP HOF;go_wp2_with (refine wpList_store_row rfl 24 (.tmp 2) (.tmp 68) rfl (w.heap.size+1) #[.string ⟨bs'.toArray⟩,.slice ya yn yc,.slice oa' on oc'] rfl rfl 24 #[.string ⟨#[]⟩,.slice none 0 0,.slice none 0 0] HB4.out HI.out rfl A4.out ?_);refine bodyPost_ret (by simp[results,Tryz.results20,go_sem,z0,z1,z2];try rfl) rfl ?_;refine⟨.inr (.inr ⟨HR.out,qoo (by rw[List.length_map];exact hl) HLI.out HD.out HED.out hSt,?_⟩),X9.out⟩;rcases HP6.out with⟨bs2,xa2,xn2,xc2,oa2,on2,oc2,e,NX',OU',hd⟩|⟨_,hno⟩
       ·refine⟨bs2,xa2,xn2,xc2,oa2,on2,oc2,NX',OU',e,hd.rws,hd.may,hd.rt,hd.n,fun t=>?_⟩
        rw[hd.lb _ (qc2 t),hO0.out];have:=qon (by rw[List.length_map];exact hl) HLI.out HD.out HED.out t;rw[List.length_map] at this ⊢;exact this
       ·have h1:=hno (dfA (qav num) NX O0) (by have:=HMAY.out;rw[←hO0.out] at this;exact this.ok) (fun t _=>rfl)
        have h2:(dfA (qav num) NX O0).n=St.length:=hOl;omega
 ·as_aux_lemma=>
   have A0:Hid ((#[.string ⟨#[]⟩,.slice none 0 0,.slice none 0 0]:Array Value).all (·.oneCell')=true):=by unfold Hid;simp[Value.oneCell']
   have B6:=setRow_heap w3 (w.heap.size+1) _ #[.string ⟨#[]⟩,.slice none 0 0,.slice none 0 0] 24 (0,0) B3;have k6:Kept (fun k=>k=w.heap.size+1) w3 (w3.setRow (w.heap.size+1) #[.string ⟨#[]⟩,.slice none 0 0,.slice none 0 0]):=qas;have x3:=bt HX2.out X3.out (Nat.le_refl _);have X6:=qaa (x3.trans (k6.below x3.size (fun b hb=>by omega)));have z0:=cell_of_row _ _ 0 _ _ _ B6;have z1:=cell_of_row _ _ 1 _ _ _ B6;have z2:=cell_of_row _ _ 2 _ _ _ B6;have HNR:=qaa hR;clear B6 k6 B3 x3 kat hR;go_wp2_with (refine wpList_store_row rfl 24 (.tmp 2) (.tmp 22) rfl (w.heap.size+1) #[.string ⟨#[]⟩,.slice none 0 0,.slice none 0 0] rfl rfl 24 #[.string ⟨#[]⟩,.slice none 0 0,.slice none 0 0] HB3.out HI.out rfl A0.out ?_);refine bodyPost_ret (by simp[results,Tryz.results20,go_sem,z0,z1,z2];try rfl) rfl ?_;exact⟨.inl ⟨HNR.out,rfl⟩,X6.out⟩
end Go.Proofs.YtdgoilkgplnhfaaGreat

