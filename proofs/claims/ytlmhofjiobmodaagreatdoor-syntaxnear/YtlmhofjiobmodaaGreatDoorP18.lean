/-
  Items in memory; the reader's policy by its contract. No condition.
-/
import Derived.Test.YtlmhofjiobmodaaGreatDoorP17
import Derived.Test.YtlmhofjiobmodaaGreatDoorP07
set_option maxRecDepth 100000
set_option maxHeartbeats 16000000
namespace Go.Proofs.YtlmhofjiobmodaaGreatDoor
open Go.RowKit Go.Lib
def qb4 (w:World) (base:Nat):List IT→List Value→List Nat→Prop
 |[],cs,ks=>cs=[]∧ks=[]
 |x::l,cs,ks=>∃vs bs cs' ks',cs=itV x vs++cs'∧ks=bs++ks'∧qaj w base x.c vs bs∧qb4 w base l cs' ks'
theorem qb4.kept {F:Nat→Prop} {w w':World} {base:Nat} (hk:Kept F w w'):∀ {l:List IT} {cs:List Value} {ks:List Nat},qb4 w base l cs ks→(∀k∈ks,¬F k)→qb4 w' base l cs ks
 |[],cs,ks,h,_=>h
 |c::l,cs,ks,h,hF=>by
  obtain⟨vs,bs,cs',ks',h1,h2,h3,h4⟩:=h;refine⟨vs,bs,cs',ks',h1,h2,qaj.kept hk _ vs bs h3 (fun j hj=>hF j ?_),qb4.kept hk h4 (fun j hj=>hF j ?_)⟩
  all_goals
   rw[h2];simp[hj]
theorem qb4.snoc {w:World} {base:Nat}:∀ {l:List IT} {cs:List Value} {ks:List Nat} {x:IT} {vs:List Value} {bs:List Nat},qb4 w base l cs ks→qaj w base x.c vs bs→qb4 w base (l++[x]) (cs++itV x vs) (ks++bs)
 |[],cs,ks,x,vs,bs,h,hc=>by
  obtain⟨rfl,rfl⟩:=h;exact⟨vs,bs,[],[],by simp,by simp,hc,rfl,rfl⟩
 |d::l,cs,ks,x,vs,bs,h,hc=>by
  obtain⟨vs',bs',cs',ks',h1,h2,h3,h4⟩:=h;exact⟨vs',bs',cs'++itV x vs,ks'++bs,by rw[h1,List.append_assoc],by rw[h2,List.append_assoc],h3,qb4.snoc h4 hc⟩
theorem qb4.lt {w:World} {base:Nat}:∀ {l:List IT} {cs:List Value} {ks:List Nat},qb4 w base l cs ks→∀k∈ks,base≤k∧k<w.heap.size
 |[],cs,ks,h=>by
  obtain⟨_,rfl⟩:=h;intro k hk;cases hk
 |c::l,cs,ks,h=>by
  obtain⟨vs,bs,cs',ks',h1,h2,h3,h4⟩:=h;intro k hk;rw[h2,List.mem_append] at hk;rcases hk with hk|hk
  ·exact qaj.lt h3 k hk
  ·exact qb4.lt h4 k hk
theorem qb4.mono {w:World} {base base':Nat} (hb:base'≤base):∀ {l:List IT} {cs:List Value} {ks:List Nat},qb4 w base l cs ks→qb4 w base' l cs ks
 |[],_,_,h=>h
 |c::l,cs,ks,h=>by
  obtain⟨vs,bs,cs',ks',h1,h2,h3,h4⟩:=h;exact⟨vs,bs,cs',ks',h1,h2,qaj.mono hb _ vs bs h3,qb4.mono hb h4⟩
structure qcy (w:World) (base:Nat) (L:List IT) (v:Value) (cs:List Value) (bs:List Nat):Prop where
 row:w.ownsRow base 62 11 v L.length cs
 its:qb4 w base L cs bs
 nd:(bk v++bs).Nodup
theorem qcy.kept {F:Nat→Prop} {w w':World} {base:Nat} {L:List IT} {v:Value} {cs:List Value} {bs:List Nat} (h:qcy w base L v cs bs) (hk:Kept F w w') (hF:∀k∈bk v++bs,¬F k):qcy w' base L v cs bs:=
 ⟨qai h.row hk (fun k h1 h2=>hF k (List.mem_append.2 (.inl (qbc.2 h1))) h2),qb4.kept hk h.its (fun k h1 h2=>hF k (List.mem_append.2 (.inr h1)) h2),h.nd⟩
theorem qcy.lt {w:World} {base:Nat} {L:List IT} {v:Value} {cs:List Value} {bs:List Nat} (h:qcy w base L v cs bs):∀k∈bk v++bs,base≤k∧k<w.heap.size:=by
 intro k hk;rcases List.mem_append.1 hk with hk|hk
 ·exact World.ownsRow.lt h.row k (qbc.1 hk)
 ·exact qb4.lt h.its k hk
theorem qcy.frame {F:Nat→Prop} {w w':World} {base:Nat} {L:List IT} {v:Value} {cs:List Value} {bs:List Nat} (h:qcy w base L v cs bs) (hk:Kept F w w') (hF:∀k,F k→k<base):qcy w' base L v cs bs:=
 h.kept hk (fun k h1 h2=>by have:=(h.lt k h1).1;have:=hF k h2;omega)
theorem qcy.below {w w':World} {base:Nat} {L:List IT} {v:Value} {cs:List Value} {bs:List Nat} (h:qcy w base L v cs bs) (x:Below w.heap.size w w'):qcy w' base L v cs bs:=
 h.kept (F:=fun _=>False) (Kept.of_below x) (fun _ _ hf=>hf)
theorem qcy.mono {w:World} {base base':Nat} {L:List IT} {v:Value} {cs:List Value} {bs:List Nat} (h:qcy w base L v cs bs) (hb:base'≤base):qcy w base' L v cs bs:=
 ⟨qc6 h.row hb,qb4.mono hb h.its,h.nd⟩
theorem qcy.nil (w:World) (base:Nat):qcy w base [] (.slice none 0 0) [] []:=⟨qau _ _ _ _,⟨rfl,rfl⟩,List.nodup_nil⟩
theorem qcy.push {w0 w6:World} {base g6 cap6:Nat} {L:List IT} {v:Value} {cs:List Value} {bs:List Nat} {x:IT} {vs:List Value} {cb:List Nat} {b1 H:Nat} (h:qcy w0 base L v cs bs) (hc:qaj w0 b1 x.c vs cb) (hcn:cb.Nodup) (hb1:base≤b1) (hlo:∀k∈bk v++bs,k<b1)
 (hH:w0.heap.size=H) (hg:w0.grownBy w6 v.ownBlock) (hr:w6.ownsRow base 62 11 (.slice (some ⟨g6,0,none⟩) (L.length+1) cap6) (L.length+1) (cs++itV x vs)) (hgg:v.ownBlock=some g6∨g6=H):
 qcy w6 base (L++[x]) (.slice (some ⟨g6,0,none⟩) (L.length+1) cap6) (cs++itV x vs) (bs++cb):=by
 have K1:=qae hg;have Ez:=List.nodup_append.1 h.nd;have hits:qb4 w6 base L cs bs:=qb4.kept K1 h.its (fun k h1 h2=>Ez.2.2 k (qbc.2 h2) k h1 rfl);have hct:qaj w6 base x.c vs cb:=by
  refine qaj.mono hb1 _ _ _ (qaj.kept K1 _ _ _ hc (fun k h1 h2=>?_));have:=hlo k (List.mem_append.2 (.inl (qbc.2 h2)));have:=(qaj.lt hc k h1).1;omega
 have hmem:∀k∈bs,k<w0.heap.size:=fun k hk=>(qb4.lt h.its k hk).2
 have hmc:∀k∈cb,b1≤k∧k<w0.heap.size:=fun k hk=>qaj.lt hc k hk
 have hb:(bs++cb).Nodup:=List.nodup_append.2 ⟨Ez.2.1,hcn,fun a ha b hb e=>by
  have:=hlo a (List.mem_append.2 (.inr ha));have:=(hmc b hb).1;omega⟩
 have hgb:g6∉bs++cb:=fun hm=>by
  rcases List.mem_append.1 hm with hm|hm
  ·rcases hgg with e|e
   ·exact Ez.2.2 g6 (qbc.2 e) g6 hm rfl
   ·have:=hmem g6 hm
    omega
  ·rcases hgg with e|e
   ·have:=hlo g6 (List.mem_append.2 (.inl (qbc.2 e)))
    have:=(hmc g6 hm).1;omega
   ·have:=(hmc g6 hm).2
    omega
 refine⟨by rw[List.length_append,List.length_singleton];exact hr,qb4.snoc hits hct,?_⟩;show([g6]++(bs++cb)).Nodup;exact List.nodup_cons.2 ⟨hgb,hb⟩
def qhe (rp:Nat) (w:World) (x:PR (List IT)) (e:Ending) (w':World):Prop:=match x with
 |.ok L _=>(∃v cs bs,e=.returned (.agg #[v])∧qcy w' w.heap.size L v cs bs)∧Kept (fun k=>k=rp) w w'
 |.bad e0 p=>e=pan e0 p∧Kept (fun k=>k=rp) w w'
 |.out=>False
theorem qhe.badI {rp:Nat} {w w':World} {x:PR (List IT)} {e:Ending} {e0 p:Int} (hx:x=.bad e0 p) (he:e=pan e0 p) (h:Kept (fun k=>k=rp) w w'):qhe rp w x e w':=by
 subst hx;exact⟨he,h⟩
theorem qhe.okI {rp:Nat} {w w':World} {x:PR (List IT)} {e:Ending} {L:List IT} {j:Nat} {v:Value} {cs:List Value} {bs:List Nat} (hx:x=.ok L j) (he:e=.returned (.agg #[v])) (h1:qcy w' w.heap.size L v cs bs) (h:Kept (fun k=>k=rp) w w'):qhe rp w x e w':=by
 subst hx;exact⟨⟨v,cs,bs,he,h1⟩,h⟩
theorem Tryz.info62n:(Tryz.prog.info? 62).map (fun i=>(i.zero,i.size,i.bytes))=some (some (.agg #[.int .i64 0,.string ⟨#[]⟩,.int .i64 0,.string ⟨#[]⟩,.string ⟨#[]⟩,.slice none 0 0,.slice none 0 0,.slice none 0 0,.slice none 0 0,.int .i64 0,.int .i64 0]),11,176):=by kernel_rfl
theorem qlg {rbase rp g cap:Nat} {Ts:List Tk} {f:Nat} {w:World} (hf:5*Ts.length+6≤f) (hR:RdA w rbase rp g cap Ts 0):
 Calls Tryz.prog 28 #[.pointer (some ⟨rp,0,none⟩)] w (qhe rp w (qg7 Ts f [] 0)):=by
 obtain⟨x,hx⟩:∃x,x=qg7 Ts f [] 0:=⟨_,rfl⟩;rw[←hx];have HX:=qaa hx;have HF:=qaa hf;obtain⟨Q,hQ⟩:∃Q,Q=w.heap.size:=⟨_,rfl⟩;obtain⟨P,hP⟩:∃P,P=w.heap.size+1:=⟨_,rfl⟩;obtain⟨W,hW⟩:∃W,W=(w.alloc (.cells #[.slice none 0 0] 36)).alloc (.cells #[.slice none 0 0] 36):=⟨_,rfl⟩;have X0:=qaa (show Below w.heap.size w W by rw[hW];exact al (al Yj _) _);have Q0:=qaa (show W.heap[Q]? =some (.cells #[.slice none 0 0] 36 (0,0)) by
  rw[hW,hQ];exact(heap_alloc_old _ _ (by simp)).trans (Yh w _))
 have P0:=qaa (show W.heap[P]? =some (.cells #[.slice none 0 0] 36 (0,0)) by
  rw[hW,hP,show w.heap.size+1=(w.alloc (.cells #[.slice none 0 0] 36)).heap.size by simp];exact Yh _ _)
 have R0:=qaa (hR.below X0.out);have Bd:Hid (Q=w.heap.size∧P=w.heap.size+1∧W.heap.size=w.heap.size+2):=⟨hQ,hP,by rw[hW];simp⟩;have Bc:Hid (rp<Q∧g<Q):=by have:=hR.gl;unfold Hid;omega
 have K0:Hid (Kept (fun k=>k=rp) w W):=Kept.of_below X0.out;have O0:=qaa (qcy.nil W W.heap.size);clear hx hf hR;go_enter Tryz.func28,Tryz.ntmps28;go_upto_block 0 with fail
 rw[←hP,←hW,←hQ];clear hP hW hQ X0;have nQ:Q≠rp:=by have:=Bc.out;omega
 have nP:P≠rp:=by have:=Bc.out;have:=Bd.out;omega
 go_wp2;go_loopg [8] (f+1) (fun gg xx wr=>∃(L:List IT) (v:Value) (cs:List Value) (bs:List Nat) (j' f':Nat),xx=xx∧Hid (qcy wr W.heap.size L v cs bs)∧Hid (wr.heap[P]? =some (.cells #[v] 36 (0,0)))∧Hid (RdA wr rbase rp g cap Ts j')∧Hid (Kept (fun k=>k=rp) w wr)∧Hid (wr.heap[Q]? =some (.cells #[.slice none 0 0] 36 (0,0)))∧Hid (x=qg7 Ts f' L j')∧Hid (L.length≤100)∧Hid ((Ts.length-j')+4*Ts.length+6≤f')∧f'<gg)
 case atStart=>
  exact⟨_,_,_,_,0,f,rfl,O0,P0,R0,K0,Q0,HX,by simp[Hid],by have:=HF.out;unfold Hid;omega,by omega⟩
 case round=>
  clear O0 P0 R0 K0 Q0 HX;obtain⟨L,v,cs,bs,j',f',_,OR,JO,RR,KR,QR,HX,De,BQ,hg⟩:=hrel;have HG:=qaa hg;clear hg;cases f' with
  |zero=>exact absurd BQ.out (by omega)
  |succ f'=>
   have Df:Hid ((Ts.length-j')+4*Ts.length+5≤f'):=by have:=BQ.out;unfold Hid;omega
   clear BQ;have HM:Hid (x=if (tok Ts j').k=8 then .ok L j'
    else if qas Ts j'=0 then .bad 90 (tok Ts j').p
    else if L.length=100 then .bad 92 (tok Ts j').p
    else(qdx Ts f' (qas Ts j') j').bind fun x j=>qg7 Ts f' (L++[x]) j):=HX.out
   clear HX;obtain⟨a6,c6,hv,_⟩:=qad OR.out.row;subst hv;have HT:=qaa (qcd RR.out);unfold tkV at HT;obtain⟨z,hz⟩:∃z,z=tok Ts j':=⟨_,rfl⟩;rw[←hz] at HT HM;have HZ:=qaa hz;clear hz;have hf0:=qtq;by_cases h8:z.k=8
   ·have JB:(z.k !=8)=false:=by simp[h8]
    have BM:Hid (x=.ok L j'):=by unfold Hid;rw[HM.out,if_pos h8]
    clear HM h8;go_upto_region 7 with(go_at_call 50;refine HT.out.mono ?_;rintro e w1 ⟨rfl,x1⟩;have X1:=qaa x1;clear x1)
    clear hf0 JB;have P1:=qaa ((X1.out.block P (Yd JO.out)).trans JO.out);have Q1:=qaa ((X1.out.block Q (Yd QR.out)).trans QR.out);have O1:=qaa (OR.out.below X1.out);have K1:=qaa (KR.out.trans (Kept.of_below X1.out));clear HT X1 OR JO RR KR QR;have g0:w1.cell? ⟨P,0,none⟩=some (.slice a6 L.length c6):=by rw[Ye _ _ _ _ _ _ P1.out];rfl
    have g1:w1.cell? ⟨Q,0,none⟩=some (.slice none 0 0):=by rw[Ye _ _ _ _ _ _ Q1.out];rfl
    have f1:=Yf w1 Q 0 _ _ Q1.out;have Q9:Hid ((w1.setCell ⟨Q,0,none⟩ (.slice a6 L.length c6)).heap[Q]? =some (.cells #[.slice a6 L.length c6] 36 (0,0))):=by
     have:=qab Q1.out 0 (.slice a6 L.length c6);simpa [Hid] using this
    have KQ:Hid (Kept (fun k=>k=Q) w1 (w1.setCell ⟨Q,0,none⟩ (.slice a6 L.length c6))):=Kept.setCell (F:=fun k=>k=Q) (p:=⟨Q,0,none⟩) (Kept.refl _ _) rfl _;go_wp2;clear g0 g1 f1;generalize w1.setCell ⟨Q,0,none⟩ (.slice a6 L.length c6)=w9 at *;have g0:w9.cell? ⟨Q,0,none⟩=some (.slice a6 L.length c6):=by rw[Ye _ _ _ _ _ _ Q9.out];rfl
    refine Yg (by simp[results,Tryz.results28,go_sem,g0];try rfl) rfl ?_;refine qhe.okI BM.out rfl ((O1.out.frame KQ.out (fun k hk=>?_)).mono ?_) (K1.out.fin KQ.out ?_)
    ·have:=Bd.out
     rw[hk];omega
    ·have:=Bd.out
     omega
    ·have:=Bd.out
     omega
   ·have JB:(z.k !=8)=true:=by simpa using h8
    have BM:Hid (x=if qas Ts j'=0 then .bad 90 z.p
     else if L.length=100 then .bad 92 z.p
     else(qdx Ts f' (qas Ts j') j').bind fun x j=>qg7 Ts f' (L++[x]) j):=by unfold Hid;rw[HM.out,if_neg h8]
    clear HM h8;go_upto_region 3 with(go_at_call 50;refine HT.out.mono ?_;rintro e w1 ⟨rfl,x1⟩;have X1:=qaa x1;clear x1)
    clear hf0 JB;have P1:=qaa ((X1.out.block P (Yd JO.out)).trans JO.out);have Q1:=qaa ((X1.out.block Q (Yd QR.out)).trans QR.out);have O1:=qaa (OR.out.below X1.out);have R1:=qaa (RR.out.below X1.out);have K1:=qaa (KR.out.trans (Kept.of_below X1.out));clear HT X1 OR JO RR KR QR;have GH:=qaa (qh9 R1.out);by_cases h0:qas Ts j'=0
    ·have Bt:Hid (x=.bad 90 z.p):=by unfold Hid;rw[BM.out,if_pos h0]
     have H0:=qaa h0;clear BM h0;go_wp2_with (fail);refine GH.out.mono ?_;rintro e w2 ⟨_,he,x2⟩;have he:=he H0.out;unfold pan at he;subst he;exact⟨rfl,qhe.badI Bt.out (by rw[HZ.out];rfl) (K1.out.trans (Kept.of_below x2))⟩
    ·have Bt:Hid (x=if L.length=100 then .bad 92 z.p
      else(qdx Ts f' (qas Ts j') j').bind fun x j=>qg7 Ts f' (L++[x]) j):=by unfold Hid;rw[BM.out,if_neg h0]
     have DK:Hid ((tok Ts j').k=1):=by
      rcases qdj Ts qe8 j' 3 1 with h|⟨_,_,h3⟩
      ·exact absurd h h0
      ·exact qb0 h3
     have H0:=qaa h0;clear BM h0;go_upto_region 4 with(go_at_call 51;refine GH.out.mono ?_;rintro e w2 ⟨he,_,x2⟩;have he:=he H0.out;subst he;have X2:=qaa x2;clear x2)
     have P2:=qaa ((X2.out.block P (Yd P1.out)).trans P1.out);have Q2:=qaa ((X2.out.block Q (Yd Q1.out)).trans Q1.out);have O2:=qaa (O1.out.below X2.out);have R2:=qaa (R1.out.below X2.out);have K2:=qaa (K1.out.trans (Kept.of_below X2.out));clear GH X2 P1 Q1 O1 R1 K1;have g0:w2.cell? ⟨P,0,none⟩=some (.slice a6 L.length c6):=by rw[Ye _ _ _ _ _ _ P2.out];rfl
     by_cases h1:L.length=100
     ·have h1b:((L.length:Int)==100)=true:=by simp;omega
      have G9:Hid (x=.bad 92 z.p):=by unfold Hid;rw[Bt.out,if_pos h1]
      have E8:=qaa (qb7 R2.out 92);clear Bt h1;go_wp2_with (fail);refine E8.out.mono ?_;rintro e w3 ⟨he,x3⟩;unfold pan at he;subst he;exact⟨rfl,qhe.badI G9.out (by rw[HZ.out];rfl) (K2.out.trans (Kept.of_below x3))⟩
     ·have h1b:((L.length:Int)==100)=false:=by simp;omega
      have G9:Hid (x=(qdx Ts f' (qas Ts j') j').bind fun x j=>qg7 Ts f' (L++[x]) j):=by unfold Hid;rw[Bt.out,if_neg h1]
      have GV:=qaa h1;clear Bt h1;go_upto_region 6 with fail
      clear g0 h1b;have Bt:=qaa G9.out;have R8:=qaa R2.out;have O8:=qaa O2.out;have P8:=qaa P2.out;have Q8:=qaa Q2.out;have K8:=qaa K2.out;clear G9 R2 O2 P2 Q2 K2;refine qam (S:=fun V=>V.cell? ⟨P,0,none⟩=some (.slice a6 L.length c6)) 8 (by kernel_rfl) ?_;have Bb:Hid (Below w2.heap.size w2 w2.drew):=Yj.drew;have RA:=qaa (R8.out.below Bb.out);have OA:=qaa (O8.out.below Bb.out);have PA:=qaa ((Bb.out.block P (Yd P8.out)).trans P8.out);have QA:=qaa ((Bb.out.block Q (Yd Q8.out)).trans Q8.out);have KA:=qaa (K8.out.trans (Kept.of_below Bb.out));clear Bb R8 O8 P8 Q8 K8;generalize w2.drew=wA at *;have SF:Hid (∀V:World,V.heap[P]? =some (.cells #[.slice a6 L.length c6] 36 (0,0))→V.cell? ⟨P,0,none⟩=some (.slice a6 L.length c6)):=fun V h1=>by rw[Ye _ _ _ _ _ _ h1];rfl
      have SA:=qaa (SF.out wA PA.out);refine qac.tk 0 rfl 17 SA.out (fun a b=>by have _:=b;go_simp;first|done|rfl) ?_
      try simp only[Act.put,Ya,Yb,Yc]
      refine qac.tk 1 rfl 18 SA.out (fun a b=>by have _:=b;go_simp;first|done|rfl) ?_
      try simp only[Act.put,Ya,Yb,Yc]
      refine qac.tk 2 rfl 19 SA.out (fun a b=>by have _:=b;go_simp;first|done|rfl) ?_
      try simp only[Act.put,Ya,Yb,Yc]
      refine qac.tk 3 rfl 20 SA.out (fun a b=>by have _:=b;go_simp;first|done|rfl) ?_
      try simp only[Act.put,Ya,Yb,Yc]
      have HI:=qaa (qpm (kind:=qas Ts j') DK.out (by have:=Df.out;omega) RA.out (f:=f'));refine qac.stq 4 rfl fun K hK=>?_
      go_simp;refine HI.out.mono ?_;intro e wB hp;cases Bh:qdx Ts f' (qas Ts j') j' with
      |out=>rw[Bh] at hp;exact absurd hp (fun h=>h)
      |bad e0 p=>
       rw[Bh] at hp Bt;obtain⟨he,k3⟩:=hp;unfold pan at he;subst he;exact⟨rfl,qhe.badI Bt.out rfl (KA.out.trans k3)⟩
      |ok x2 j2=>
       have HJ2:=qaa ((qfo f' (qas Ts j') j' (by have:=Df.out;omega)).lt Bh);rw[Bh] at hp Bt;obtain⟨⟨vs,cb,he,hct,hnd⟩,r3,k3⟩:=hp;obtain⟨d3,e3,d4,e4,d5,e5,d6,e6,rfl⟩:=hct.eight;have he:e=.returned (.agg #[.int .i64 x2.k,.string ⟨x2.nm.toArray⟩,.int .i64 x2.c.k,.string ⟨x2.c.nm.toArray⟩,.string ⟨x2.c.tx.toArray⟩,.slice d3 x2.c.pre.length e3,.slice d4 x2.c.sp.length e4,.slice d5 x2.c.ns.length e5,.slice d6 x2.c.kids.length e6,.int .i64 x2.c.p,.int .i64 x2.p]):=he;subst he;have hlo:∀k,k=rp→k<W.heap.size:=by have:=Bc.out;have:=Bd.out;intro k hk;omega
       have CB:=qaa hct;have Dp:=qaa hnd;have RB:=qaa r3;have OB:=qaa (OA.out.frame k3 hlo);have PB:=qaa ((k3.block P (Yd PA.out) nP).trans PA.out);have QB:=qaa ((k3.block Q (Yd QA.out) nQ).trans QA.out);have KB:=qaa (KA.out.trans k3);have EJ:Hid (∀k∈bk (.slice a6 L.length c6)++bs,k<wA.heap.size):=fun k hk=>(OA.out.lt k hk).2
       have SB:=qaa (SF.out wB PB.out);have G9:Hid (x=qg7 Ts f' (L++[x2]) j2):=Bt.out;have EK:Hid (W.heap.size≤wA.heap.size):=by have:=Yd PA.out;have:=Bd.out;unfold Hid;omega
       refine hK _ _ SB.out ?_;clear hK K HI Bh hct hnd r3 k3 Bt hlo RA OA PA QA KA SA
       try simp only[Act.put,Ya,Yb,Yc]
       have XC:Hid (Below wB.heap.size wB (wB.alloc (.cells #[.int .i64 x2.k,.string ⟨x2.nm.toArray⟩,.int .i64 x2.c.k,.string ⟨x2.c.nm.toArray⟩,.string ⟨x2.c.tx.toArray⟩,.slice d3 x2.c.pre.length e3,.slice d4 x2.c.sp.length e4,.slice d5 x2.c.ns.length e5,.slice d6 x2.c.kids.length e6,.int .i64 x2.c.p,.int .i64 x2.p] 62))):=al Yj _;have RC:=qaa (RB.out.below XC.out);have OC:=qaa (OB.out.below XC.out);have PC:=qaa ((XC.out.block P (Yd PB.out)).trans PB.out);have QC:=qaa ((XC.out.block Q (Yd QB.out)).trans QB.out);have KC:=qaa (KB.out.trans (Kept.of_below XC.out));have CC:=qaa (CB.out.below XC.out);have SC:=qaa (SF.out (wB.alloc (.cells #[.int .i64 x2.k,.string ⟨x2.nm.toArray⟩,.int .i64 x2.c.k,.string ⟨x2.c.nm.toArray⟩,.string ⟨x2.c.tx.toArray⟩,.slice d3 x2.c.pre.length e3,.slice d4 x2.c.sp.length e4,.slice d5 x2.c.ns.length e5,.slice d6 x2.c.kids.length e6,.int .i64 x2.c.p,.int .i64 x2.p] 62)) PC.out);have BN:=qaa (World.news_of_block (Yh wB (.cells #[.int .i64 x2.k,.string ⟨x2.nm.toArray⟩,.int .i64 x2.c.k,.string ⟨x2.c.nm.toArray⟩,.string ⟨x2.c.tx.toArray⟩,.slice d3 x2.c.pre.length e3,.slice d4 x2.c.sp.length e4,.slice d5 x2.c.ns.length e5,.slice d6 x2.c.kids.length e6,.int .i64 x2.c.p,.int .i64 x2.p] 62)));have DW:Hid (W.heap.size≤(wB.alloc (.cells #[.int .i64 x2.k,.string ⟨x2.nm.toArray⟩,.int .i64 x2.c.k,.string ⟨x2.c.nm.toArray⟩,.string ⟨x2.c.tx.toArray⟩,.slice d3 x2.c.pre.length e3,.slice d4 x2.c.sp.length e4,.slice d5 x2.c.ns.length e5,.slice d6 x2.c.kids.length e6,.int .i64 x2.c.p,.int .i64 x2.p] 62)).heap.size):=by have:=Yd PC.out;have:=Bd.out;unfold Hid;omega
       obtain⟨ie,hie,hz0,hz1,hz2⟩:=info_parts Tryz.info62n;refine qac.stq 5 rfl fun K hK=>?_
       go_simp;refine hK _ _ SC.out ?_;clear hK K RB OB PB QB KB CB SB XC
       try simp only[Act.put,Ya,Yb,Yc]
       refine qac.stq 6 rfl fun K hK=>?_
       refine step_append_lies _ (by rfl) (.tmp 18) (.tmp 22) 34 (by rfl) W.heap.size 62 ie (.agg #[.int .i64 0,.string ⟨#[]⟩,.int .i64 0,.string ⟨#[]⟩,.string ⟨#[]⟩,.slice none 0 0,.slice none 0 0,.slice none 0 0,.slice none 0 0,.int .i64 0,.int .i64 0]) 11 176 Tryz.underlying34 hie hz0 hz1 hz2 rfl (by decide) _ L.length cs (by rfl) OC.out.row ⟨wB.heap.size,0,none⟩ 1 1 [.int .i64 x2.k,.string ⟨x2.nm.toArray⟩,.int .i64 x2.c.k,.string ⟨x2.c.nm.toArray⟩,.string ⟨x2.c.tx.toArray⟩,.slice d3 x2.c.pre.length e3,.slice d4 x2.c.sp.length e4,.slice d5 x2.c.ns.length e5,.slice d6 x2.c.kids.length e6,.int .i64 x2.c.p,.int .i64 x2.p] (by rfl) (by rfl) BN.out (by simp[Value.oneCell']) (by decide) (by have:=De.out;unfold maxLen;omega) (by have:=De.out;omega) DW.out _ rfl ?_;intro gD cD wD h1 h2 h3 h4;have OD:Hid (qcy wD W.heap.size (L++[x2]) (.slice (some ⟨gD,0,none⟩) (L.length+1) cD) _ (bs++cb)):=qcy.push OC.out CC.out Dp.out EK.out EJ.out rfl h2 h1 h3;have hkg:=qae h2;have hge:∀k,(Value.slice a6 L.length c6).ownBlock=some k→W.heap.size≤k:=fun k hk=>(World.ownsRow.lt OC.out.row k hk).1
       have KG:Hid (Kept (fun k=>W.heap.size≤k) (wB.alloc (.cells #[.int .i64 x2.k,.string ⟨x2.nm.toArray⟩,.int .i64 x2.c.k,.string ⟨x2.c.nm.toArray⟩,.string ⟨x2.c.tx.toArray⟩,.slice d3 x2.c.pre.length e3,.slice d4 x2.c.sp.length e4,.slice d5 x2.c.ns.length e5,.slice d6 x2.c.kids.length e6,.int .i64 x2.c.p,.int .i64 x2.p] 62)) wD):=hkg.mono hge;have hl2:¬W.heap.size≤P∧¬W.heap.size≤Q∧¬W.heap.size≤rp∧¬W.heap.size≤g:=by have:=Bc.out;have:=Bd.out;exact⟨by omega,by omega,by omega,by omega⟩
       have PD:=qaa ((KG.out.block P (Yd PC.out) hl2.1).trans PC.out);have QD:=qaa ((KG.out.block Q (Yd QC.out) hl2.2.1).trans QC.out);have RD:=qaa (RC.out.kept KG.out hl2.2.2.1 hl2.2.2.2);have KD:Hid (Kept (fun k=>k=rp) w wD):=Kept.trans_new KC.out KG.out (fun k h1 h2=>absurd h2 (by have:=Bd.out;omega));have SD:=qaa (SF.out wD PD.out);refine hK _ _ SD.out ?_;clear hK K h1 h2 h3 h4 hkg hge KG RC OC PC QC KC CC SC BN hl2 DW;refine qac.tk 7 rfl 24 SD.out (fun a b=>by have _:=b;go_simp;first|done|rfl) ?_;have c7:=SD.out;have f7:=Yf wD P 0 _ _ PD.out;refine qac.lst rfl fun K hK=>?_
       go_simp;refine hK _ _ ?_;clear hK K c7 f7;have K9:Hid (Kept (fun k=>k=P) wD (wD.setCell ⟨P,0,none⟩ (.slice (some ⟨gD,0,none⟩) (L.length+1) cD))):=Kept.setCell (F:=fun k=>k=P) (p:=⟨P,0,none⟩) (Kept.refl _ _) rfl _;have hl2:Q≠P∧rp≠P∧g≠P∧P<W.heap.size:=by have:=Bc.out;have:=Bd.out;exact⟨by omega,by omega,by omega,by omega⟩
       have P9:Hid ((wD.setCell ⟨P,0,none⟩ (.slice (some ⟨gD,0,none⟩) (L.length+1) cD)).heap[P]? =some (.cells #[.slice (some ⟨gD,0,none⟩) (L.length+1) cD] 36 (0,0))):=by
        have:=qab PD.out 0 (.slice (some ⟨gD,0,none⟩) (L.length+1) cD);simpa [Hid] using this
       have Q9:=qaa ((K9.out.block Q (Yd QD.out) hl2.1).trans QD.out);have R9:=qaa (RD.out.kept K9.out hl2.2.1 hl2.2.2.1);have O9:=qaa (OD.out.frame K9.out (fun k hk=>by rw[hk];exact hl2.2.2.2));have JW:Hid (Kept (fun k=>k=rp) w (wD.setCell ⟨P,0,none⟩ (.slice (some ⟨gD,0,none⟩) (L.length+1) cD))):=KD.out.fin K9.out (by have:=Bd.out;omega);clear hl2 PD QD RD KD SD OD K9 SF;generalize wD.setCell ⟨P,0,none⟩ (.slice (some ⟨gD,0,none⟩) (L.length+1) cD)=w9 at *;go_wp2;go_roundg (f'+1)
       case measure=>have:=HG.out;omega
       case rel=>exact⟨_,_,_,_,j2,f',(by first|rfl|trivial),O9,P9,R9,JW,Q9,G9,by have:=De.out;have:=GV.out;unfold Hid;rw[List.length_append,List.length_singleton];omega,by have:=Df.out;have:=HJ2.out;unfold Hid;omega,by omega⟩
theorem qb4.get {w:World} {base:Nat}:∀ {l:List IT} {cs:List Value} {ks:List Nat} (_:qb4 w base l cs ks) (i:Nat) (hi:i<l.length),∃vs bs,qaj w base l[i].c vs bs∧(∀r,r<11→cs[i*11+r]? =(itV l[i] vs)[r]?)
 |[],cs,ks,h,i,hi=>by simp at hi
 |x::l,cs,ks,h,0,hi=>by
  obtain⟨vs,bs,cs',ks',h1,h2,h3,h4⟩:=h;refine⟨vs,bs,h3,fun r hr=>?_⟩;have hl:(itV x vs).length=11:=by simp[itV,h3.len]
  rw[h1,List.getElem?_append_left (by omega),Nat.zero_mul,Nat.zero_add];rfl
 |x::l,cs,ks,h,i+1,hi=>by
  obtain⟨vs,bs,cs',ks',h1,h2,h3,h4⟩:=h;obtain⟨vs2,bs2,q1,q2⟩:=qb4.get h4 i (by simpa using hi);have hl:(itV x vs).length=11:=by simp[itV,h3.len]
  refine⟨vs2,bs2,q1,fun r hr=>?_⟩;rw[h1,List.getElem?_append_right (by omega),hl,show(i+1)*11+r-11=i*11+r by omega];exact q2 r hr
def qsc:List IT→WS→Option WS
 |[],s=>some s
 |x::l,s=>(qrf x s).bind fun a=>qsc l a
theorem qrg:liesAt Tryz.prog Tryz.prog.depth 120 (3/Tryz.prog.cellsOf 120) 0 87 1=true:=by kernel_rfl
theorem WrA.new (w:World):WrA (w.alloc (.cells #[.pointer none,.slice none 0 0,.bool true] 120)) w.heap.size w.heap.size [] true:=by
 have hsz:(#[.pointer none,.slice none 0 0,.bool true]:Array Value).size=3:=rfl;refine⟨⟨#[.pointer none,.slice none 0 0,.bool true],⟨Yh w _,Nat.le_refl _,by rw[hsz];decide,by rw[hsz];exact qrg,by decide,.inl rfl,.slice none 0 0,rfl,World.ownsRow_nil _ _ _ _⟩,hsz,rfl,fun _=>rfl⟩,by simp,by simp⟩
theorem qlh {w:World} {b0:Nat} {L:List IT} {v:Value} {cs:List Value} {bs:List Nat} {y:WS} (hl:L.length≤100) (hs:∀x∈L,Smp 16 x.c) (h:qcy w b0 L v cs bs) (hx:qsc L ([],true)=some y):
 Calls Tryz.prog 42 #[.agg #[v]] w fun e w'=>e=.returned (.string ⟨y.1.toArray⟩)∧Below w.heap.size w w':=by
 obtain⟨ao,cp,hv,BS⟩:=qad h.row;subst hv;have hll:(L.length:Int)≤100:=by omega
 have GD:=qaa hl;have XW:=qaa (show Below w.heap.size w (w.alloc (.cells #[.slice ao L.length cp] 36)) from al Yj _);have HB:=qaa (Yh w (.cells #[.slice ao L.length cp] 36));have JJ:=qaa (h.below XW.out);have HM:=qaa qbn;have GR:=qaa BS;have Jj:=qaa hs;have Du:=qaa hx;clear hl hs h hx BS;obtain⟨P,hP⟩:∃P,P=w.heap.size:=⟨_,rfl⟩;go_enter Tryz.func42,Tryz.ntmps42;go_upto_region 1 with fail
 rw[←hP] at HB ⊢;have BK:=qaa hP;clear hP;generalize w.alloc (.cells #[.slice ao L.length cp] 36)=W at *;have q0:W.cell? ⟨P,0,none⟩=some (.slice ao L.length cp):=by rw[Ye _ _ _ _ _ _ HB.out];rfl
 go_upto_region 2 with(go_at_call 65;refine(HM.out _).mono ?_;rintro e w2 ⟨rfl,hw⟩;have hw2:=hw.symm;clear hw;subst hw2)
 clear q0 hll;have RW:=qaa (WrA.new W);have XQ:Hid (Below W.heap.size W (W.alloc (.cells #[.pointer none,.slice none 0 0,.bool true] 120))):=al Yj _;have HB2:=qaa ((XQ.out.block P (Yd HB.out)).trans HB.out);have Ma:=qaa (JJ.out.below XQ.out);have XX:=qaa (bt XW.out XQ.out Yi);go_upto_region 3 with fail
 obtain⟨Q,hQ⟩:∃Q,Q=W.heap.size:=⟨_,rfl⟩;rw[←hQ] at RW ⊢;have HQ:Hid (w.heap.size≤Q):=by have:=XW.out.size;unfold Hid;omega
 clear hQ HB JJ XW XQ;generalize W.alloc (.cells #[.pointer none,.slice none 0 0,.bool true] 120)=W2 at *;have q0:W2.cell? ⟨P,0,none⟩=some (.slice ao L.length cp):=by rw[Ye _ _ _ _ _ _ HB2.out];rfl
 go_wp2;clear q0;go_loopg [5,15] (L.length+1) (fun gg x5 x15 wr=>∃(k:Nat) (z:WS),x15=.int .i64 (k:Nat)∧k≤L.length∧Hid (qsc (L.drop k) z=some y)∧Hid (WrA wr Q Q z.1 z.2)∧Hid (KpO 5 Q Q W2 wr)∧L.length-k<gg)
 case atStart=>exact⟨0,([],true),rfl,by omega,Du,RW,qaa (KpO.refl _ _),by omega⟩
 case round=>
  obtain⟨k,z,rfl,hk,HP,RR,XR,hg⟩:=hrel;have HG:=qaa hg;clear hg Du;by_cases hlt:k<L.length
  ·have hlt':(k:Int)<(L.length:Int):=by omega
   obtain⟨it,hdd⟩:∃it,it=L[k]:=⟨_,rfl⟩;have Jl:Hid (it∈L):=by
    unfold Hid;rw[hdd];exact List.getElem_mem hlt
   have HDR:=HP.out;rw[List.drop_eq_getElem_cons hlt,←hdd] at HDR;obtain⟨z1,hz1,hx1⟩:=Option.bind_eq_some_iff.1 HDR;have J3:=qaa hx1;have HRR:=qaa (XR.out.ownS Ma.out.row (by decide) RW.out);obtain⟨us,bs2,Dl,hcell⟩:=Ma.out.its.get k hlt;rw[←hdd] at Dl hcell;have Ej:=qaa (Dl.kpo RW.out XR.out);obtain⟨d3,e3,d4,e4,d5,e5,d6,e6,rfl⟩:=Dl.eight;have HZ1:=qaa hz1;obtain⟨g,rfl⟩:∃g,ao=some ⟨g,0,none⟩:=GR.out (by omega);have HK:=qaa hlt;have hcl:∀r,r<11→wr.cell? ⟨g,k*11+r,none⟩=[.int .i64 it.k,.string ⟨it.nm.toArray⟩,.int .i64 it.c.k,.string ⟨it.c.nm.toArray⟩,.string ⟨it.c.tx.toArray⟩,.slice d3 it.c.pre.length e3,.slice d4 it.c.sp.length e4,.slice d5 it.c.ns.length e5,.slice d6 it.c.kids.length e6,.int .i64 it.c.p,.int .i64 it.p][r]? :=fun r hr=>by
    rw[World.ownsRow.cellAt HRR.out (k*11+r) (by omega),hcell r hr];rfl
   have q0:=hcl 0 (by omega);have q1:=hcl 1 (by omega);have q2:=hcl 2 (by omega);have q3:=hcl 3 (by omega);have q4:=hcl 4 (by omega);have q5:=hcl 5 (by omega);have q6:=hcl 6 (by omega);have q7:=hcl 7 (by omega);have q8:=hcl 8 (by omega);have q9:=hcl 9 (by omega);have q10:=hcl 10 (by omega);simp only[List.getElem?_cons_zero,List.getElem?_cons_succ,Nat.add_zero] at q0 q1 q2 q3 q4 q5 q6 q7 q8 q9 q10;clear hcl hcell HRR Dl HDR hx1 hz1 HP hdd hlt;have Bg:=qaa (Yh wr (.cells #[.int .i64 it.k,.string ⟨it.nm.toArray⟩,.int .i64 it.c.k,.string ⟨it.c.nm.toArray⟩,.string ⟨it.c.tx.toArray⟩,.slice d3 it.c.pre.length e3,.slice d4 it.c.sp.length e4,.slice d5 it.c.ns.length e5,.slice d6 it.c.kids.length e6,.int .i64 it.c.p,.int .i64 it.p] 62));have XK:Hid (Below wr.heap.size wr (wr.alloc (.cells #[.int .i64 it.k,.string ⟨it.nm.toArray⟩,.int .i64 it.c.k,.string ⟨it.c.nm.toArray⟩,.string ⟨it.c.tx.toArray⟩,.slice d3 it.c.pre.length e3,.slice d4 it.c.sp.length e4,.slice d5 it.c.ns.length e5,.slice d6 it.c.kids.length e6,.int .i64 it.c.p,.int .i64 it.p] 62))):=al Yj _;have RK:=qaa (RR.out.below XK.out);have Da:=qaa (XR.out.trans (KpO.of_below XK.out));have HIT:=qaa (qpn (Jj.out it Jl.out) RK.out (Ej.out.below XK.out) HZ1.out);unfold itV at HIT;go_upto_region 6 with fail
   clear q0 q1 q2 q3 q4 q5 q6 q7 q8 q9 q10 Ej RR XR XK;obtain⟨B,hB⟩:∃B,B=wr.heap.size:=⟨_,rfl⟩;rw[←hB] at Bg ⊢;clear hB;generalize wr.alloc (.cells #[.int .i64 it.k,.string ⟨it.nm.toArray⟩,.int .i64 it.c.k,.string ⟨it.c.nm.toArray⟩,.string ⟨it.c.tx.toArray⟩,.slice d3 it.c.pre.length e3,.slice d4 it.c.sp.length e4,.slice d5 it.c.ns.length e5,.slice d6 it.c.kids.length e6,.int .i64 it.c.p,.int .i64 it.p] 62)=wk at *;obtain⟨q0,q1,q2,q3,q4,q5,q6,q7,q8,q9,q10⟩:=qic Bg.out;have fw2:IntKind.i64.wrap ((k:Int)+1)=((k+1:Nat):Int):=by have:=GD.out;have:=HK.out;simp[IntKind.wrap,IntKind.bits,IntKind.signed];omega
   go_wp2_with (go_at_call 66;refine HIT.out.mono ?_;rintro e w3 ⟨rfl,r3,x3⟩;have R3:=qaa r3;have X3:=qaa (Da.out.trans x3);clear r3 x3);go_roundg (L.length-(k+1)+1)
   case measure=>have:=HG.out;have:=HK.out;omega
   case rel=>exact⟨k+1,z1,by first|rfl|(rw[show wrap64 ((k:Int)+1)=((k+1:Nat):Int) from fw2]),by have:=HK.out;omega,J3,R3,X3,by omega⟩
  ·have hlt':¬(k:Int)<(L.length:Int):=by omega
   have HF:=HP.out;rw[List.drop_eq_nil_of_le (by omega)] at HF;obtain rfl:z=y:=Option.some.inj HF;have HST:=qaa RR.out.string;have RI:=qaa (XX.out.trans ((KpO.to_below XR.out Yi RW.out.le).mono HQ.out));clear HF HP hlt;go_wp2_with (go_at_call 67;refine HST.out.mono ?_;rintro e w3 ⟨rfl,x3⟩;have X3:=qaa (RI.out.trans (x3.mono HQ.out));clear x3);go_ret;exact⟨rfl,X3.out⟩
theorem NoM.empty {c:CT} (h:NoM c):c.pre=[]∧c.ns=[]:=by
 unfold NoM at h;rcases h with⟨_,_,_,h1,_,h2,_⟩|⟨_,_,h1,_,h2,_⟩|⟨_,_,_,h1,_,h2⟩|⟨_,_,_,h1,h2,_⟩
 all_goals exact⟨h1,h2⟩
theorem qaj.spans {w:World} {base:Nat} {c:CT} {v0 v1 v2 v3 v4 v5 v6 v7:Value} {bs:List Nat} (h:qaj w base c [v0,v1,v2,v3,v4,v5,v6,v7] bs):w.ownsRow base 68 2 v4 c.sp.length (prC c.sp):=by
 cases c with
 |mk k nm tx pre sp ns kids p=>
  unfold qaj at h;obtain⟨u3,u4,u5,u6,cs,ks,h1,h2,h3,_⟩:=h;injection h1 with _ h1
  injection h1 with _ h1
  injection h1 with _ h1
  injection h1 with _ h1
  injection h1 with h1 _
  rw[h1];exact h3
def qoz:Nat→CT→Prop
 |0,_=>False
 |f+1,c=>NoM c∧c.sp.length≤1048576∧c.kids.length≤1048576∧∀d∈c.kids,qoz f d
def qpo (f:Nat):Prop:=∀(c:CT) (w:World) (b0:Nat) (vs:List Value) (bs:List Nat),qoz f c→qaj w b0 c vs bs→Calls Tryz.prog 71 #[.agg vs.toArray,.agg vs.toArray] w fun e w'=>e=.returned (.bool true)∧Below w.heap.size w w'
theorem qpp:∀(args:Array Value) (w:World),(callFunc 71 args).run Tryz.prog w=.ok (.enter 71 args) w:=fun _ _=>by kernel_rfl
theorem qpq:∀(args:Array Value) (w:World),(callFunc 48 args).run Tryz.prog w=.ok (.enter 48 args) w:=fun _ _=>by kernel_rfl
theorem qi7 {f:Nat} (hC:qpo f) {w:World} {b0:Nat} {v:Value} {KS:List CT} {cs:List Value} {ks:List Nat} (hl:KS.length≤1048576) (hs:∀d∈KS,qoz f d) (hrow:w.ownsRow b0 60 8 v KS.length cs) (hkd:qao w b0 KS cs ks):
 Calls Tryz.prog 113 #[v,v,.func (.func 71) #[] #[]] w fun e w'=>e=.returned (.bool true)∧Below w.heap.size w w':=by
 obtain⟨ao,cp,hv,BS⟩:=qad hrow;subst hv;have HRW:=qaa hrow;have EP:=qaa hkd;have GR:=qaa BS;have GD:=qaa hl;have Jj:=qaa hs;have BU:=qaa hC;have hE:=qpp;clear hrow hkd BS hl hs hC;go_enter Tryz.func113,Tryz.ntmps113;go_wp2;go_loopg [7,8,9,17] (KS.length+1) (fun gg x7 x8 x9 x17 wr=>∃k:Nat,x17=.int .i64 (k:Nat)∧k≤KS.length∧Hid (Below w.heap.size w wr)∧KS.length-k<gg)
 case atStart=>exact⟨0,rfl,by omega,qaa Yj,by omega⟩
 case round=>
  obtain⟨k,rfl,hk,XR,hg⟩:=hrel;have HG:=qaa hg;clear hg;by_cases hlt:k<KS.length
  ·have hlt':(k:Int)<(KS.length:Int):=by omega
   obtain⟨g,rfl⟩:∃g,ao=some ⟨g,0,none⟩:=GR.out (by omega);obtain⟨d,hdd⟩:∃d,d=KS[k]:=⟨_,rfl⟩;have Jl:Hid (qoz f d):=by
    unfold Hid;rw[hdd];exact Jj.out _ (List.getElem_mem hlt)
   obtain⟨us,bs2,Dl,hcell,_⟩:=EP.out.get k hlt;rw[←hdd] at Dl;obtain⟨d3,e3,d4,e4,d5,e5,d6,e6,rfl⟩:=Dl.eight;have Ej:=qaa (Dl.below XR.out);have HK:=qaa hlt;have hcl:∀V,Below w.heap.size w V→∀r,r<8→V.cell? ⟨g,k*8+r,none⟩=[.int .i64 d.k,.string ⟨d.nm.toArray⟩,.string ⟨d.tx.toArray⟩,.slice d3 d.pre.length e3,.slice d4 d.sp.length e4,.slice d5 d.ns.length e5,.slice d6 d.kids.length e6,.int .i64 d.p][r]? :=fun V y r hr=>by
    rw[World.ownsRow.cellAt (own_below HRW.out y) (k*8+r) (by omega),hcell r hr]
   have Bu:=qaa hcl;clear hcl hcell Dl hdd hlt;have q0:=Bu.out wr XR.out 0 (by omega);have q1:=Bu.out wr XR.out 1 (by omega);have q2:=Bu.out wr XR.out 2 (by omega);have q3:=Bu.out wr XR.out 3 (by omega);have q4:=Bu.out wr XR.out 4 (by omega);have q5:=Bu.out wr XR.out 5 (by omega);have q6:=Bu.out wr XR.out 6 (by omega);have q7:=Bu.out wr XR.out 7 (by omega);simp only[List.getElem?_cons_zero,List.getElem?_cons_succ,Nat.add_zero] at q0 q1 q2 q3 q4 q5 q6 q7;have Bg:=qaa (Yh wr (.cells #[.int .i64 d.k,.string ⟨d.nm.toArray⟩,.string ⟨d.tx.toArray⟩,.slice d3 d.pre.length e3,.slice d4 d.sp.length e4,.slice d5 d.ns.length e5,.slice d6 d.kids.length e6,.int .i64 d.p] 60));have XK:Hid (Below wr.heap.size wr (wr.alloc (.cells #[.int .i64 d.k,.string ⟨d.nm.toArray⟩,.string ⟨d.tx.toArray⟩,.slice d3 d.pre.length e3,.slice d4 d.sp.length e4,.slice d5 d.ns.length e5,.slice d6 d.kids.length e6,.int .i64 d.p] 60))):=al Yj _;go_upto_region 6 with fail
   clear q0 q1 q2 q3 q4 q5 q6 q7;have XX:=qaa (bt XR.out XK.out Yi);have Dc:=qaa (Ej.out.below XK.out);obtain⟨P,hP⟩:∃P,P=wr.heap.size:=⟨_,rfl⟩;rw[←hP] at Bg ⊢;clear hP XK Ej XR;generalize wr.alloc (.cells #[.int .i64 d.k,.string ⟨d.nm.toArray⟩,.string ⟨d.tx.toArray⟩,.slice d3 d.pre.length e3,.slice d4 d.sp.length e4,.slice d5 d.ns.length e5,.slice d6 d.kids.length e6,.int .i64 d.p] 60)=wk at *;have q0:=Bu.out wk XX.out 0 (by omega);have q1:=Bu.out wk XX.out 1 (by omega);have q2:=Bu.out wk XX.out 2 (by omega);have q3:=Bu.out wk XX.out 3 (by omega);have q4:=Bu.out wk XX.out 4 (by omega);have q5:=Bu.out wk XX.out 5 (by omega);have q6:=Bu.out wk XX.out 6 (by omega);have q7:=Bu.out wk XX.out 7 (by omega);simp only[List.getElem?_cons_zero,List.getElem?_cons_succ,Nat.add_zero] at q0 q1 q2 q3 q4 q5 q6 q7;have Dq:=qaa (Yh wk (.cells #[.int .i64 d.k,.string ⟨d.nm.toArray⟩,.string ⟨d.tx.toArray⟩,.slice d3 d.pre.length e3,.slice d4 d.sp.length e4,.slice d5 d.ns.length e5,.slice d6 d.kids.length e6,.int .i64 d.p] 60));have XK:Hid (Below wk.heap.size wk (wk.alloc (.cells #[.int .i64 d.k,.string ⟨d.nm.toArray⟩,.string ⟨d.tx.toArray⟩,.slice d3 d.pre.length e3,.slice d4 d.sp.length e4,.slice d5 d.ns.length e5,.slice d6 d.kids.length e6,.int .i64 d.p] 60))):=al Yj _;have Gc:=qaa ((XK.out.block P (Yd Bg.out)).trans Bg.out);go_upto_region 7 with fail
   clear q0 q1 q2 q3 q4 q5 q6 q7 Bu Bg;have Da:=qaa (bt XX.out XK.out Yi);have BH:=qaa (Dc.out.below XK.out);obtain⟨Q,hQ⟩:∃Q,Q=wk.heap.size:=⟨_,rfl⟩;rw[←hQ] at Dq ⊢;clear hQ XK Dc XX;generalize wk.alloc (.cells #[.int .i64 d.k,.string ⟨d.nm.toArray⟩,.string ⟨d.tx.toArray⟩,.slice d3 d.pre.length e3,.slice d4 d.sp.length e4,.slice d5 d.ns.length e5,.slice d6 d.kids.length e6,.int .i64 d.p] 60)=wj at *;obtain⟨q0,q1,q2,q3,q4,q5,q6,q7⟩:=ld8 Gc.out;obtain⟨u0,u1,u2,u3,u4,u5,u6,u7⟩:=ld8 Dq.out;have JL:=qaa (BU.out d wj b0 _ bs2 Jl.out BH.out);have fw:IntKind.i64.wrap ((k:Int)+1)=((k+1:Nat):Int):=by have:=GD.out;have:=HK.out;simp[IntKind.wrap,IntKind.bits,IntKind.signed];omega
   go_wp2_with (fail);refine JL.out.mono ?_;rintro e w3 ⟨rfl,x3⟩;have X3:=qaa (bt Da.out x3 Yi);clear x3 q0 q1 q2 q3 q4 q5 q6 q7 u0 u1 u2 u3 u4 u5 u6 u7;go_wp2;go_roundg (KS.length-(k+1)+1)
   case measure=>have:=HG.out;have:=HK.out;omega
   case rel=>exact⟨k+1,by first|rfl|(rw[show wrap64 ((k:Int)+1)=((k+1:Nat):Int) from fw]),by have:=HK.out;omega,X3,by omega⟩
  ·have hlt':¬(k:Int)<(KS.length:Int):=by omega
   go_wp2;go_ret;exact⟨rfl,XR.out⟩
end Go.Proofs.YtlmhofjiobmodaaGreatDoor

