/-
  The document's inOrder by its contract. Conditions: as the store's; at most a million roots.
-/
import Derived.Test.YtnddhkhmbjeefaaC46
import Derived.Test.YtnddhkhmbjeefaaC18
import Derived.Deep.DeepCutAuto
import Derived.Deep.CutBlock
import Derived.Test.YtnddhkhmbjeefaaC44
import Derived.Test.YtnddhkhmbjeefaaC25
namespace Go.Proofs.Ytnddhkhmbjeefaa
open Go.RowKit Go.Lib Go.Maps
section
variable {w:World} {x b s:Nat} {S o:List Int} {M0 most:Int} {N:List Nd} {Q:Nat→Prop}
set_option maxRecDepth 100000 in
theorem sizesD_any (h:RA w x S M0 N Q):Calls Try.prog 11 #[.pointer (some ⟨x,0,none⟩)] w fun e w'=>∃g c,e=.returned (.slice (some ⟨g,0,none⟩) S.length c)∧ZBk w' g S∧w.heap.size≤g∧Below w.heap.size w w':=by
 obtain⟨i3,hi3,hz30,hz31,hz32⟩:=info_parts Try.info3
 obtain⟨sb,sc,c0,_,zs,_⟩:=h.fields
 have h1:=h.ok.sz.ge
 have h2:=h.ok.sz.le
 have NW:Hid (∀i u,(zC S)[i]? =some u→w.cell? ((⟨sb,0,none⟩:Addr).add i)=some u):=fun i u hu=>by
  have hi:i<S.length:=by
   rcases Nat.lt_or_ge i (zC S).length with h|h
   ·simpa [zC] using h
   ·rw[List.getElem?_eq_none h] at hu;cases hu
  rw[addr_add,Nat.zero_add,zs.cell hi,←zC_get S hi]
  exact hu
 have OC:Hid (∀u∈zC S,u.oneCell'=true):=fun u hu=>by
  obtain⟨z,_,rfl⟩:=List.mem_map.1 hu
  rfl
 have LT:Hid ((zC S).length=S.length*1):=by unfold Hid;simp[zC]
 clear h zs
 go_enter Try.func11,Try.ntmps11
 go_wp2_with (at_builtin;refine wpList_append_own_at _ rfl (.const (.slice none 0 0)) (.tmp 6) 22 rfl w.heap.size 3 i3 (.int .i64 0) 1 8 Try.underlying22 hi3 hz30 hz31 hz32 rfl (by decide) (.slice none 0 0) 0 [] rfl (World.ownsRow_nil _ _ _ _) ⟨sb,0,none⟩ S.length sc (zC S) rfl LT.out NW.out OC.out (by unfold maxLen;omega) (by omega) (Nat.le_refl _) ?_;intro v9 w9 h1 h2 h3 h4;rw[Nat.zero_add] at h1;obtain⟨ma,mc,rfl,hp⟩:=own_shape h1;have O9:=hide h1;have G9:=hide h2;have HP:=hide hp;clear h1 h2 h3 h4 hp)
 go_ret
 obtain⟨g,rfl⟩:=HP.out (by omega)
 obtain⟨cs,h5⟩:=own_ty O9.out g rfl
 refine⟨g,mc,rfl,⟨cs,h5,fun i hi=>?_⟩,(World.ownsRow.lt O9.out g rfl).1,below_of_grown G9.out⟩
 have:=World.ownsRow.cellAt O9.out i (by omega)
 rw[cell_of_row w9 g i _ _ _ h5,List.nil_append,zC_get S hi] at this
 exact this
set_option maxRecDepth 100000 in
theorem of_dead {na bg q f:Nat} {sz od:Value} {D:List Nd} {P M:Nat→Prop} (h:OfD S most b s na sz od w D bg q P M):Calls Try.prog 79 #[.pointer (some ⟨b,0,none⟩),.int .i64 (f:Int)] w fun e w'=>e=.returned (.int .i64 (f:Int))∧w'=w:=by
 have c7:=h.cells.2.2.2
 clear h
 by_cases h2:f<2
 ·have h2':(f:Int)<2:=by omega
  go_enter Try.func79,Try.ntmps79
  go_wp2
  go_ret
  exact⟨rfl,rfl⟩
 ·have h2':¬(f:Int)<2:=by omega
  go_enter Try.func79,Try.ntmps79
  go_wp2
  go_ret
  exact⟨rfl,rfl⟩
abbrev rtF (o:List Int) (N:List Nd) (rs:List Int):List Phi:=(rs.map fun f p=>sayR N p f).map (ledF o)
def IoL (S o:List Int) (most:Int) (N:List Nd) (rs:List Int) (w:World) (e:Ending) (w':World):Prop:=∃nv oa oc fits outs,e=.returned (.tuple #[nv,.slice oa rs.length oc,.bool fits])∧Below w.heap.size w w'∧w'.ownsRow w.heap.size 3 1 (.slice oa rs.length oc) rs.length (zC outs)∧((fits=true∧∃R2 N2,w'.ownsRow 0 86 2 nv R2.length (ndC R2)∧R2.map ND.nd=N2∧(∀y∈R2,ZBk w' y.kb y.ks)∧foldF S most (rs.map fun f p=>sayR N p f) o=(outs,0,N2)∧Ok (ledS S o) most N2)∨(fits=false∧(foldF S most (rs.map fun f p=>sayR N p f) o).2.1≠0∧∃n2 xs,w'.ownsRow 0 86 2 nv n2 xs))
structure InQ (S o:List Int) (most:Int) (b s sg:Nat) (la:Option Addr) (lo:List Int) (sz od:Value) (N D0:List Nd) (rs:List Int) (w0 w1 wr:World) (v:Value) (gs:List Int) (T:List Nd) (P' M':Nat→Prop) (bg:Nat):Prop where
 row:wr.ownsRow w1.heap.size 3 1 v gs.length (zC gs)
 np:∀k,v.ownBlock=some k→¬P' k
 kp:Below w0.heap.size w0 wr
 sz1:w1.heap.size≤wr.heap.size
 w01:w0.heap.size≤w1.heap.size
 sl:sg<w1.heap.size
 ll:∀k,la.map Addr.block=some k→k<w1.heap.size
 new:∀k,P' k→w0.heap.size≤k
 zs:ZBk wr sg S∧¬P' sg
 zl:ZAt wr la lo∧∀k,la.map Addr.block=some k→¬P' k∧k<wr.heap.size
 few:T.length≤4*tr S.length*bg
 bh:(bg:Int)≤most+1
 res:(∃N2,OfS S o most b s 0 sz od wr (D0++T) N2 bg P' M'∧kidsF (ins (ledS S o) most) [] ((rtF o N rs).take gs.length)=(gs,0,N2)∧bg=N2.length∧(bg:Int)≤most)∨(OfD S most b s 0 sz od wr (D0++T) bg 0 P' M'∧(kidsF (ins (ledS S o) most) [] (rtF o N rs)).2.1≠0)
end
section
variable {S o:List Int} {M0 most:Int} {b s sg bg:Nat} {la:Option Addr} {lo rs gs:List Int} {sz od v:Value} {N D0 T N2:List Nd} {w0 w1 wr w2:World} {P' M':Nat→Prop} {e:Ending}
theorem InQ.side {w3:World} {P3:Nat→Prop} (h:InQ S o most b s sg la lo sz od N D0 rs w0 w1 wr v gs T P' M' bg) (k:Kept M' wr w3) (hm:∀k,M' k→P' k) (pp:∀k,P3 k→P' k∨wr.heap.size≤k):(ZBk w3 sg S∧¬P3 sg)∧(ZAt w3 la lo∧∀k,la.map Addr.block=some k→¬P3 k∧k<w3.heap.size)∧(∀k,v.ownBlock=some k→¬P3 k∧¬M' k∧w1.heap.size≤k∧k<wr.heap.size)∧∀k,P3 k→w0.heap.size≤k:=by
 have hn:∀k,k<wr.heap.size→¬P' k→¬P3 k:=fun k hk hp hp3=>by
  rcases pp k hp3 with h|h
  ·exact hp h
  ·omega
 refine⟨⟨h.zs.1.kept k (fun hF=>h.zs.2 (hm _ hF)),hn _ h.zs.1.lt h.zs.2⟩,⟨h.zl.1.kept k (fun k hk hF=>(h.zl.2 k hk).1 (hm _ hF)),fun j hj=>⟨hn j (h.zl.2 j hj).2 (h.zl.2 j hj).1,Nat.lt_of_lt_of_le (h.zl.2 j hj).2 k.size⟩⟩,fun j hj=>?_,fun j hj=>?_⟩
 ·obtain⟨a,c⟩:=World.ownsRow.lt h.row j hj
  exact⟨hn j c (h.np j hj),fun hF=>h.np j hj (hm _ hF),a,c⟩
 ·rcases pp j hj with h1|h1
  ·exact h.new j h1
  ·exact Nat.le_trans h.kp.size h1
theorem InQ.push (ho:IsOrd S o) (hN:Ok S M0 N) (h:InQ S o most b s sg la lo sz od N D0 rs w0 w1 wr v gs T P' M' bg) (hv:OfS S o most b s 0 sz od wr (D0++T) N2 bg P' M') (hk:kidsF (ins (ledS S o) most) [] ((rtF o N rs).take gs.length)=(gs,0,N2)) (hg:gs.length<rs.length) (hr:hasR N (rs.getD gs.length 0)) {f:Nat} (okD0:Ok S MB D0) (hrep:RepN S N D0 (rs.getD gs.length 0) (f:Int))
 (hx:OfL S o most b s 0 sz od (f:Int) (D0++T) N2 bg 0 P' M' wr e w2):
 ∃r,e=.returned (.int .i64 r)∧w2.ownsRow w1.heap.size 3 1 v gs.length (zC gs)∧w1.heap.size≤w2.heap.size∧(Below w2.heap.size w2 (w2.alloc (.cells #[.int .i64 r] 3))→∀(g4 cap:Nat) (w4:World),w4.ownsRow w1.heap.size 3 1 (.slice (some ⟨g4,0,none⟩) (gs.length+1) cap) (gs.length+1) (zC gs++[.int .i64 r])→(w2.alloc (.cells #[.int .i64 r] 3)).grownBy w4 v.ownBlock→(v.ownBlock=some g4∨g4=(w2.alloc (.cells #[.int .i64 r] 3)).heap.size)→
  ∃T2 P2 M2 b2,InQ S o most b s sg la lo sz od N D0 rs w0 w1 w4 (.slice (some ⟨g4,0,none⟩) (gs++[r]).length cap) (gs++[r]) T2 P2 M2 b2):=by
 obtain⟨r,T1,P1,M1,b2,rfl,kp,pp,mm,bl,bl',few,res⟩:=hx
 obtain⟨zs,zl,nv,nw⟩:=h.side kp (fun k hm=>hv.mp hm) pp
 have hrow:w2.ownsRow w1.heap.size 3 1 v gs.length (zC gs):=own_kept h.row kp (fun k hk=>(nv k hk).2.1)
 have hz2:=kp.size
 have hsz1:=h.sz1
 refine⟨r,rfl,hrow,by omega,fun x g4 cap w4 o4 gr h4=>⟨T++T1,P1,M1,b2,?_⟩⟩
 have hkg:Kept (fun k=>v.ownBlock=some k) w2 w4:=(Kept.of_below x).trans_new (kept_of_grown gr) (fun _ _ h=>h)
 have k24:=hkg.size
 have hxs:=x.size
 have hgt:gs.length<(rtF o N rs).length:=by simp only[rtF,List.length_map];exact hg
 have hget:(rtF o N rs)[gs.length]=ledF o (fun p=>sayR N p (rs.getD gs.length 0)):=by
  simp only[rtF,List.getElem_map]
  rw[List.getD_eq_getElem?_getD,List.getElem?_eq_getElem hg]
  rfl
 have hrp:Rep S (D0++T) (fun p=>sayR N p (rs.getD gs.length 0)) (f:Int):=Rep.app okD0 hrep
 have al:Alike (ledS S o) (ledF o (fun p=>sayR N p (rs.getD gs.length 0))) (newF o (D0++T) (f:Int)):=fun p hp=>(hrp.2 _ (led_pnt ho hp)).symm
 have hh:Hang (ledS S o) (ledF o (fun p=>sayR N p (rs.getD gs.length 0))) 0:=hang_new ho (say_hang hN _ _ (Nat.le_refl _) hr 0 (hN.lvl_le hr).1) 0 (Nat.zero_le _) (fun k _ h=>absurd h (by omega))
 have ia:=ins_alike hv.okN hh al
 have hsn:=kids_snoc _ _ _ _ hk (ledF o (fun p=>sayR N p (rs.getD gs.length 0)))
 rw[←hget,←List.take_succ_eq_append_getElem hgt,hget,ia] at hsn
 have kvw:Kept (fun k=>M' k∨v.ownBlock=some k) wr w4:=(kp.mono (fun _ h=>.inl h)).trans_new hkg (fun _ _ h=>.inr h)
 refine⟨by rw[show(gs++[r]).length=gs.length+1 by simp,show zC (gs++[r])=zC gs++[.int .i64 r] by simp[zC]];exact o4,fun k hk hp=>?_,h.kp.trans (kvw.below h.kp.size (fun k hk=>?_)),by omega,h.w01,h.sl,h.ll,nw,⟨zs.1.kept hkg (fun hF=>by have:=(nv _ hF).2.2.1;have:=h.sl;omega),zs.2⟩,⟨zl.1.kept hkg (fun k hk hF=>by have:=(nv _ hF).2.2.1;have:=h.ll k hk;omega),fun k hk=>⟨(zl.2 k hk).1,by have:=(zl.2 k hk).2;omega⟩⟩,?_,bl',?_⟩
 ·have e4:g4=k:=Option.some.inj hk
  rcases h4 with h4|h4
  ·exact(nv k (by rw[←e4];exact h4)).1 hp
  ·have:k<w2.heap.size:=by
    rcases res with⟨_,s3,_⟩|⟨s3,_⟩
    ·exact s3.lt hp
    ·exact s3.lt hp
   omega
 ·rcases hk with hk|hk
  ·exact h.new k (hv.mp hk)
  ·have:=(nv k hk).2.2.1
   have:=h.w01
   omega
 ·have f0:=h.few
  rw[List.length_append]
  have e1:b2=(b2-bg)+bg:=by omega
  rw[e1,Nat.mul_add]
  omega
 ·rcases res with⟨N3,s3,i3,hb3,hm3⟩|⟨s3,ov3⟩
  ·refine .inl ⟨N3,by rw[←List.append_assoc];exact s3.kept hkg (fun k hp hF=>(nv k hF).1 hp),?_,by omega,hm3⟩
   rw[show(gs++[r]).length=gs.length+1 by simp,hsn,i3]
   simp
  ·refine .inr ⟨by rw[←List.append_assoc];exact s3.kept hkg (fun k hp hF=>(nv k hF).1 hp),?_⟩
   have h2:=OverP.zero hv.okN (Nat.zero_le _) (hh.alike al) ov3
   rw[h2,if_neg (by decide)] at hsn
   have:=kids_stop _ _ _ _ (by decide) hsn ((rtF o N rs).drop (gs.length+1))
   rw[List.take_append_drop] at this
   rw[this]
   exact(show(2:Int)≠0 by decide)
theorem InQ.pushD (h:InQ S o most b s sg la lo sz od N D0 rs w0 w1 wr v gs T P' M' bg) (hd:OfD S most b s 0 sz od wr (D0++T) bg 0 P' M') (he:(kidsF (ins (ledS S o) most) [] (rtF o N rs)).2.1≠0) (r:Int):
 Below wr.heap.size wr (wr.alloc (.cells #[.int .i64 r] 3))→∀(g4 cap:Nat) (w4:World),w4.ownsRow w1.heap.size 3 1 (.slice (some ⟨g4,0,none⟩) (gs.length+1) cap) (gs.length+1) (zC gs++[.int .i64 r])→(wr.alloc (.cells #[.int .i64 r] 3)).grownBy w4 v.ownBlock→(v.ownBlock=some g4∨g4=(wr.alloc (.cells #[.int .i64 r] 3)).heap.size)→
  ∃T2 P2 M2 b2,InQ S o most b s sg la lo sz od N D0 rs w0 w1 w4 (.slice (some ⟨g4,0,none⟩) (gs++[r]).length cap) (gs++[r]) T2 P2 M2 b2:=by
 intro x g4 cap w4 o4 gr h4
 refine⟨T,P',M',bg,?_⟩
 have hkg:Kept (fun k=>v.ownBlock=some k) wr w4:=(Kept.of_below x).trans_new (kept_of_grown gr) (fun _ _ h=>h)
 have k24:=hkg.size
 have hxs:=x.size
 have hsz1:=h.sz1
 have nv:∀k,v.ownBlock=some k→w1.heap.size≤k:=fun k hk=>(World.ownsRow.lt h.row k hk).1
 refine⟨by rw[show(gs++[r]).length=gs.length+1 by simp,show zC (gs++[r])=zC gs++[.int .i64 r] by simp[zC]];exact o4,fun k hk hp=>?_,h.kp.trans (hkg.below h.kp.size (fun k hk=>by have:=nv k hk;have:=h.w01;omega)),by omega,h.w01,h.sl,h.ll,h.new,⟨h.zs.1.kept hkg (fun hF=>by have:=nv _ hF;have:=h.sl;omega),h.zs.2⟩,⟨h.zl.1.kept hkg (fun k hk hF=>by have:=nv _ hF;have:=h.ll k hk;omega),fun k hk=>⟨(h.zl.2 k hk).1,by have:=(h.zl.2 k hk).2;omega⟩⟩,h.few,h.bh,.inr ⟨hd.kept hkg (fun k hp hF=>h.np k hF hp),he⟩⟩
 have e4:g4=k:=Option.some.inj hk
 rcases h4 with h4|h4
 ·exact h.np k (by rw[←e4];exact h4) hp
 ·have:=hd.lt hp
  omega
def InP (S o:List Int) (most:Int) (b s sg:Nat) (la:Option Addr) (lo:List Int) (sz od:Value) (N D0:List Nd) (rs:List Int) (w0 w1:World) (v:Value) (gs:List Int) (e:Ending) (w2:World):Prop:=∃r,e=.returned (.int .i64 r)∧w2.ownsRow w1.heap.size 3 1 v gs.length (zC gs)∧w1.heap.size≤w2.heap.size∧(Below w2.heap.size w2 (w2.alloc (.cells #[.int .i64 r] 3))→∀(g4 cap:Nat) (w4:World),w4.ownsRow w1.heap.size 3 1 (.slice (some ⟨g4,0,none⟩) (gs.length+1) cap) (gs.length+1) (zC gs++[.int .i64 r])→(w2.alloc (.cells #[.int .i64 r] 3)).grownBy w4 v.ownBlock→(v.ownBlock=some g4∨g4=(w2.alloc (.cells #[.int .i64 r] 3)).heap.size)→
     ∃T2 P2 M2 b2,InQ S o most b s sg la lo sz od N D0 rs w0 w1 w4 (.slice (some ⟨g4,0,none⟩) (gs++[r]).length cap) (gs++[r]) T2 P2 M2 b2)
theorem InQ.call {sc oc f:Nat} {oo:Option Addr} (ho:IsOrd S o) (h4:∀x∈S,x≤4) (hm0:0≤most) (hm8:most≤8192) (hN:Ok S M0 N) (h:InQ S o most b s sg la lo (.slice (some ⟨sg,0,none⟩) S.length sc) (.slice oo o.length oc) N D0 rs w0 w1 wr v gs T P' M' bg) (hzo:ZAt w0 oo o) (hoo:∀k,oo.map Addr.block=some k→k<w0.heap.size) (hg:gs.length<rs.length) (hr:hasR N (rs.getD gs.length 0)) (okD0:Ok S MB D0) (hrep:RepN S N D0 (rs.getD gs.length 0) (f:Int)) (hfD:D0.length≤rs.length*tr S.length) (hsz:rs.length*tr S.length+4*tr S.length*8194≤1649267441664):
 Calls Try.prog 79 #[.pointer (some ⟨b,0,none⟩),.int .i64 (f:Int)] wr fun e w'=>InP S o most b s sg la lo (.slice (some ⟨sg,0,none⟩) S.length sc) (.slice oo o.length oc) N D0 rs w0 w1 v gs e w':=by
 rcases h.res with⟨N2,hv,hk,hb,hbm⟩|⟨hd,he⟩
 ·have hf:=hrep.1.2
  have hfw:=h.few
  have e1:4*tr S.length*bg+4*tr S.length*(8194-bg)=4*tr S.length*8194:=by
   rw[←Nat.mul_add]
   congr 1
   omega
  refine(of_any ho h4 hm0 hm8 o.length 0 wr (D0++T) N2 bg 0 P' M' f hv h.zs.1 h.zs.2 (hzo.below h.kp) (fun k hk hp=>by have:=hoo k hk;have:=h.new k hp;omega) (by rw[List.length_append];omega) (by omega) hbm (fun k _ h=>absurd h (by omega)) (by rw[List.length_append];omega)).mono (fun e w' hx=>?_)
  exact h.push ho hN hv hk hg hr okD0 hrep hx
 ·refine(of_dead hd).mono (fun e w' hx=>?_)
  obtain⟨rfl,rfl⟩:=hx
  exact⟨(f:Int),rfl,h.row,h.sz1,h.pushD hd he _⟩
end
theorem row_zat {w:World} {base n c:Nat} {so:Option Addr} {L:List Int} (h:w.ownsRow base 3 1 (.slice so n c) n (zC L)):ZAt w so L∧∀k,so.map Addr.block=some k→(Value.slice so n c).ownBlock=some k∧base≤k∧k<w.heap.size:=by
 have hl:L.length=n:=by have:=h.1;simpa [zC] using this
 rcases h.2 with⟨e2,h2⟩|⟨g,cap,cur,e2,h0,hg,_⟩
 ·injection e2 with e3 e4 e5
  subst e3
  exact⟨.inl (List.length_eq_zero_iff.1 (by omega)),fun k hk=>by cases hk⟩
 ·injection e2 with e3 e4 e5
  subst e3
  refine⟨.inr ⟨g,0,rfl,lt_of_block hg,fun i hi=>?_⟩,fun k hk=>?_⟩
  ·rw[Nat.zero_add,World.ownsRow.cellAt h i (by omega),zC_get L hi]
  ·cases hk
   exact⟨rfl,h0,lt_of_block hg⟩
section
variable {w:World} {x:Nat} {S o rs:List Int} {M0 most:Int} {N:List Nd} {Q:Nat→Prop}
set_option maxRecDepth 100000 in
set_option maxHeartbeats 8000000 in
theorem inOrder_any (hS:SzOk S) (ho:IsOrd S o) (h4:∀x∈S,x≤4) (hm0:0≤most) (hm8:most≤8192) (ra oo:Option Addr) (rc oc:Nat) (hA:RA w x S M0 N Q) (hz:ZAt w ra rs) (hzo:ZAt w oo o) (hrs:∀f∈rs,hasR N f) (hl:rs.length≤268435456) (hsz:rs.length*tr S.length+4*tr S.length*8194≤1649267441664):
 Calls Try.prog 66 #[.pointer (some ⟨x,0,none⟩),.slice ra rs.length rc,.slice oo o.length oc,.int .i64 most] w fun e w'=>IoL S o most N rs w e w':=by
 obtain⟨i3,hi3,hz30,hz31,hz32⟩:=info_parts Try.info3
 have HA:=hide hA
 have HZ:=hide hz
 have HZO:=hide hzo
 have HRS:=hide hrs
 have HSZ:=hide hsz
 have HS:=hide hS
 have HO:=hide ho
 have H4:=hide h4
 clear hA hz hzo hrs hsz h4
 go_enter Try.func66,Try.ntmps66
 go_upto_region 2 with(go_at_call 77;refine(opened_any HS.out).mono ?_;rintro e w1 ⟨s,P,M,rfl,st,new,x1⟩;have ST:=hide st;have NEW:=hide new;have X1:=hide x1;clear st new x1)
 have CD:Hid (Calls Try.prog 78 #[.pointer (some ⟨x,0,none⟩),.pointer (some ⟨s,0,none⟩),.slice ra rs.length rc] w1 fun e w'=>CdL S N s rs [] P M w1 e w'):=copied_any H4.out ra rc (HA.out.below X1.out) (fun k hk hp=>by have:=HA.out.plt hk;have:=NEW.out k hp;omega) ST.out (HZ.out.below X1.out) (fun b hb hne hp=>by have:=HZ.out.lt hne hb;have:=NEW.out b hp;omega) HRS.out hl (by have h1:rs.length*tr S.length+4*tr S.length*8194≤1649267441664:=HSZ.out;simp only[List.length_nil];omega)
 go_upto_region 3 with(go_at_call 78;refine CD.out.mono ?_;clear CD;rintro e w2 ⟨la,lc,lo,D0,P1,M1,rfl,hll,row,np,st,rep,kp,pp,mm,few⟩;have HLL:=hide hll;have ROW0:=hide row;have NP0:=hide np;have ST1:=hide st;have REP:=hide rep;have KP:=hide kp;have PP:=hide pp;have MM:=hide mm;have FEW:=hide few;clear hll row np st rep kp pp mm few)
 have X2:Hid (Below w.heap.size w w2):=by
  refine X1.out.trans (KP.out.below X1.out.size (fun k hk=>?_))
  exact NEW.out k (ST.out.mp hk)
 have SZD:Hid (Calls Try.prog 11 #[.pointer (some ⟨x,0,none⟩)] w2 fun e w'=>∃g c,e=.returned (.slice (some ⟨g,0,none⟩) S.length c)∧ZBk w' g S∧w2.heap.size≤g∧Below w2.heap.size w2 w'):=sizesD_any (HA.out.below X2.out)
 go_upto_block 0 with(go_at_call 11;refine SZD.out.mono ?_;clear SZD;rintro e w3 ⟨sg,sc,rfl,zb,hsg,x3⟩;have ZS:=hide zb;have HSG:=hide hsg;have X3:=hide x3;clear zb hsg x3)
 have NB:=hide (heap_alloc_new w3 (.cells #[.pointer (some ⟨s,0,none⟩),.slice (some ⟨sg,0,none⟩) S.length sc,.slice oo o.length oc,.int .i64 most,.slice none 0 0,.slice none 0 0,.int .i64 0,.bool false] 145))
 have Y3:Hid (Below w3.heap.size w3 (w3.alloc (.cells #[.pointer (some ⟨s,0,none⟩),.slice (some ⟨sg,0,none⟩) S.length sc,.slice oo o.length oc,.int .i64 most,.slice none 0 0,.slice none 0 0,.int .i64 0,.bool false] 145))):=al (Below.refl _ _) _
 have HNB:Hid (w3.heap.size<(w3.alloc (.cells #[.pointer (some ⟨s,0,none⟩),.slice (some ⟨sg,0,none⟩) S.length sc,.slice oo o.length oc,.int .i64 most,.slice none 0 0,.slice none 0 0,.int .i64 0,.bool false] 145)).heap.size):=by unfold Hid;simp
 generalize w3.alloc (.cells #[.pointer (some ⟨s,0,none⟩),.slice (some ⟨sg,0,none⟩) S.length sc,.slice oo o.length oc,.int .i64 most,.slice none 0 0,.slice none 0 0,.int .i64 0,.bool false] 145)=w4 at *
 obtain⟨b,hb⟩:∃b,w3.heap.size=b:=⟨_,rfl⟩
 have HB:=hide hb
 rw[hb] at NB HNB ⊢
 clear hb
 have X23:=hide (bt X3.out Y3.out (Nat.le_refl _))
 have X4:=hide (bt X2.out X23.out (Nat.le_refl _))
 have HPN:Hid (∀k,P1 k→w.heap.size≤k∧k<w2.heap.size):=fun k hk=>⟨by
  have h1:=X1.out.size
  rcases PP.out k hk with h2|h2
  ·exact NEW.out k h2
  ·omega,ST1.out.plt hk⟩
 have HOO:Hid (∀k,oo.map Addr.block=some k→k<w.heap.size):=fun k hk=>by
  rcases HZO.out with h1|⟨b1,off,h1,h2,_⟩
  ·have h3:=HO.out.len
   have h5:=HS.out.ge
   rw[h1] at h3
   simp at h3
   omega
  ·rw[h1] at hk
   cases hk
   exact h2
 have ST2:Hid (St w4 s S D0 P1 M1):=by
  have:=ST1.out.below X23.out
  rw[List.nil_append] at this
  exact this
 have REP2:Hid (∀j,j<rs.length→RepN S N D0 (rs.getD j 0) (lo.getD j 0)):=fun j hj=>by
  have:=REP.out j hj
  rw[List.nil_append] at this
  exact this
 have I0:Hid (InQ S o most b s sg la lo (.slice (some ⟨sg,0,none⟩) S.length sc) (.slice oo o.length oc) N D0 rs w w4 w4 (.slice none 0 0) [] [] (fun k=>P1 k∨k=b) (fun k=>M1 k∨k=b) 0):=by
  obtain⟨zl,zlk⟩:=row_zat ROW0.out
  have g1:=X2.out.size
  have g2:=X3.out.size
  have g3:=Y3.out.size
  have hb:w3.heap.size=b:=HB.out
  have hsg:w2.heap.size≤sg:=HSG.out
  have hsl:=ZS.out.lt
  refine⟨World.ownsRow_nil _ _ _ _,fun k hk=>(by cases hk),X4.out,Nat.le_refl _,X4.out.size,by omega,fun k hk=>by have:=(zlk k hk).2.2;omega,fun k hk=>?_,⟨ZS.out.below Y3.out,fun hp=>?_⟩,⟨zl.below X23.out,fun k hk=>⟨fun hp=>?_,by have:=(zlk k hk).2.2;omega⟩⟩,Nat.zero_le _,by omega,.inl ⟨[],?_,rfl,rfl,by simpa using hm0⟩⟩
  ·rcases hk with hk|rfl
   ·exact(HPN.out k hk).1
   ·omega
  ·rcases hp with hp|hp
   ·have:=(HPN.out _ hp).2;omega
   ·omega
  ·rcases hp with hp|hp
   ·exact NP0.out k (zlk k hk).1 hp
   ·have:=(zlk k hk).2.2;omega
  ·rw[List.append_nil]
   refine⟨[],.slice none 0 0,.slice none 0 0,[],P1,M1,fun k=>k=b,fun k=>k=b,⟨ST2.out,⟨NB.out,World.ownsRow_nil _ _ _ _,World.ownsRow_nil _ _ _ _,rfl,fun k hk=>(by cases hk),fun k hk=>(by cases hk),fun k hk=>hk,fun k hk=>by rw[hk];exact HNB.out⟩,fun k hk e=>?_,fun k hk=>.inl hk,fun k hk=>.inr hk,fun k hk=>.inl hk,fun k hk=>.inr hk,fun k hk=>?_,fun k hk=>hk,fun k hk=>?_,Nat.zero_le _⟩,⟨rfl,Ok.nil (ledS_ok HS.out HO.out) hm0 hm8,⟨Nat.zero_le _,fun f hf=>absurd hf (Nat.not_lt_zero _),fun r h2 hr=>?_⟩,fun y hy=>(by cases hy)⟩⟩
   ·have:=(HPN.out k hk).2;omega
   ·exact hk.imp (fun h=>ST2.out.mp h) id
   ·rcases hk with hk|rfl
    ·exact ST2.out.plt hk
    ·exact HNB.out
   ·have:=hr.2
    simp at this
    omega
 have FEW2:Hid (D0.length≤rs.length*tr S.length):=FEW.out
 have OKD:Hid (Ok S MB D0):=by
  obtain⟨R,nv,V,L,_,_,h1,_⟩:=ST2.out
  exact h1
 have OKN:=hide HA.out.ok
 clear ST NEW X1 ROW0 NP0 ST1 REP KP PP MM FEW X2 ZS HSG X3 NB Y3 HNB X23 HPN ST2 HB HA HZ
 go_wp2
 go_loopw [14,15] (fun v14 v15 wr=>∃(gs:List Int) (ka:Option Addr) (kc:Nat) (T:List Nd) (P2 M2:Nat→Prop) (bg:Nat),v14=.slice ka gs.length kc∧v15=.int .i64 (gs.length:Int)∧gs.length≤rs.length∧Hid (InQ S o most b s sg la lo (.slice (some ⟨sg,0,none⟩) S.length sc) (.slice oo o.length oc) N D0 rs w w4 wr (.slice ka gs.length kc) gs T P2 M2 bg)) (fun _ v _=>rs.length-(RowKit.intOf v).toNat)
 case atStart=>exact⟨[],none,0,[],_,_,0,rfl,rfl,Nat.zero_le _,I0⟩
 case round=>
  obtain⟨gs,ka,kc,T,P2,M2,bg,rfl,rfl,hgk,KI⟩:=hrel
  clear I0
  by_cases hlt:gs.length<rs.length
  ·have hlt':(gs.length:Int)<(rs.length:Int):=by omega
   obtain⟨zb,zo,hza,hzb,q1⟩:=KI.out.zl.1.get (show gs.length<lo.length by rw[HLL.out];exact hlt)
   subst hza
   have hrj:=REP2.out gs.length hlt
   obtain⟨fj,hfj⟩:∃fj:Nat,lo.getD gs.length 0=(fj:Int):=⟨(lo.getD gs.length 0).toNat,by have:=hrj.1.1;omega⟩
   rw[hfj] at q1 hrj
   have CALL:=hide (KI.out.call HO.out H4.out hm0 hm8 OKN.out HZO.out HOO.out hlt (by rw[List.getD_eq_getElem?_getD,List.getElem?_eq_getElem hlt];exact HRS.out _ (List.getElem_mem hlt)) OKD.out hrj FEW2.out HSZ.out)
   clear hfj hrj
   go_upto_region 7 with(first
    |(go_at_call 79;refine CALL.out.mono ?_;rintro e w5 ⟨r,rfl,hrow,hz2,hpush⟩;have YY:Hid (Below w5.heap.size w5 (w5.alloc (.cells #[.int .i64 r] 3))):=(al (Below.refl _ _) _);have ROW:=hide (own_below hrow YY.out);have HPU:=hide (hpush YY.out);have SZ2:Hid (w4.heap.size≤(w5.alloc (.cells #[.int .i64 r] 3)).heap.size):=Nat.le_trans hz2 YY.out.size;clear hrow hz2 hpush)
    |(at_builtin;refine wpList_append_lies _ rfl (.tmp 34) (.tmp 41) 22 rfl w4.heap.size 3 i3 (.int .i64 0) 1 8 Try.underlying22 hi3 hz30 hz31 hz32 rfl (by decide) _ gs.length (zC gs) rfl ROW.out ⟨w5.heap.size,0,none⟩ 1 1 [.int .i64 r] rfl rfl (one_new w5 _ _) (by simp[Value.oneCell']) (by decide) (by unfold maxLen;omega) (by omega) SZ2.out _ rfl ?_;intro g8 cap8 w8 h1 h2 h3 h4;obtain⟨T3,P3,M3,b3,hk3⟩:=HPU.out g8 cap8 w8 h1 h2 h3;have KI3:=hide hk3;clear h1 h2 h3 h4 hk3))
   have hl3:(gs++[r]).length=gs.length+1:=by simp
   have HL3:=hide hl3
   clear CALL ROW HPU SZ2 YY KI hl3
   go_wp2
   go_roundw
   case rel=>exact⟨gs++[r],_,_,T3,P3,M3,b3,by rw[HL3.out],by rw[HL3.out];go_num,by rw[HL3.out];omega,KI3⟩
   case measure=>simp[RowKit.intOf];omega
  ·have hlt':¬(gs.length:Int)<(rs.length:Int):=by omega
   have HE:Hid (gs.length=rs.length):=by unfold Hid;omega
   have XN:Hid (∀n,Below wr.heap.size wr (wr.drewN n)):=fun n=>below_drewN (Below.refl _ _) n
   have hwz:=X4.out.size
   have TK:(rtF o N rs).take gs.length=rtF o N rs:=List.take_of_length_le (by simp only[rtF,List.length_map];omega)
   rcases KI.out.res with⟨N2,hv,hk,hbg,hbm⟩|⟨hd,he⟩
   ·obtain⟨R2,ov,av,AT,PS,MS,QS,QM,hx1,hx2⟩:=hv
    obtain⟨_,_,_,_,c4,_,_,c7⟩:=hx1.bu.cells
    rw[TK] at hk
    have FIN:Hid (∀wq,Below wr.heap.size wr wq→∀e,e=.returned (.tuple #[ov,.slice ka gs.length kc,.bool true])→IoL S o most N rs w e wq):=fun wq hq e he=>⟨ov,ka,kc,true,gs,by rw[he,HE.out],KI.out.kp.trans (hq.mono KI.out.kp.size),by rw[←HE.out];exact own_mono (own_below KI.out.row hq) hwz,.inl ⟨rfl,R2,N2,own_below hx1.bu.out hq,hx2.nd,fun y hy=>(hx2.kid y hy).1.below hq,hk,hx2.ok⟩⟩
    clear hx1 hx2 hk hbg hbm KI TK
    go_wp2
    go_quiet (fail)
    replace XN:=hide (XN.out nq)
    generalize wr.drewN nq=wq at *
    go_wp2
    refine bodyPost_ret (v:=.tuple #[ov,.slice ka gs.length kc,.bool true]) (by simp[results,Try.results66,go_sem];try rfl) rfl ?_
    exact FIN.out _ XN.out _ rfl
   ·obtain⟨n2,xs,ov,av,AT,PS,MS,QS,QM,hx1,hx2⟩:=hd
    obtain⟨_,_,_,_,c4,_,_,c7⟩:=hx1.bu.cells
    have FIN:Hid (∀wq,Below wr.heap.size wr wq→∀e,e=.returned (.tuple #[ov,.slice ka gs.length kc,.bool false])→IoL S o most N rs w e wq):=fun wq hq e hee=>⟨ov,ka,kc,false,gs,by rw[hee,HE.out],KI.out.kp.trans (hq.mono KI.out.kp.size),by rw[←HE.out];exact own_mono (own_below KI.out.row hq) hwz,.inr ⟨rfl,he,n2,xs,own_below hx1.bu.out hq⟩⟩
    clear hx1 hx2 he KI TK
    go_wp2
    go_quiet (fail)
    replace XN:=hide (XN.out nq)
    generalize wr.drewN nq=wq at *
    go_wp2
    refine bodyPost_ret (v:=.tuple #[ov,.slice ka gs.length kc,.bool false]) (by simp[results,Try.results66,go_sem];try rfl) rfl ?_
    exact FIN.out _ XN.out _ rfl
end
section
variable {w:World} {x:Nat} {S:List Int} {M:Int} {N:List Nd} {Q:Nat→Prop}
set_option maxRecDepth 100000 in
set_option maxHeartbeats 1000000 in
theorem mayD_any (ao:Option Addr) (cap:Nat) (A:List Int) (M2:Int) (hl:A.length≤140737488351232) (hz:ZAt w ao A) (h:RA w x S M N Q):
 Calls Try.prog 64 #[.pointer (some ⟨x,0,none⟩),.slice ao A.length cap,.int .i64 M2] w fun e w'=>TellB (0≤M2∧M2≤8192∧∀f∈A,hasR N f) e∧Below w.heap.size w w':=by
 have HH:=hide h
 have HZ:=hide hz
 clear h hz
 generalize hqp:(0≤M2∧M2≤8192∧∀f∈A,hasR N f)=Qp
 have HQP:=hide hqp
 clear hqp
 by_cases h0:M2<0
 ·have HD:Hid (¬Qp):=fun h=>by rw[←HQP.out] at h;omega
  go_enter Try.func64,Try.ntmps64
  go_wp2
  go_ret
  exact⟨TellB.no HD.out,Below.refl _ _⟩
 ·by_cases h1:8192<M2
  ·have HD:Hid (¬Qp):=fun h=>by rw[←HQP.out] at h;omega
   go_enter Try.func64,Try.ntmps64
   go_wp2
   go_ret
   exact⟨TellB.no HD.out,Below.refl _ _⟩
  ·have HM2:Hid (0≤M2∧M2≤8192):=⟨by omega,by omega⟩
   go_enter Try.func64,Try.ntmps64
   go_wp2
   go_loopw [7] (fun y wr=>∃k:Nat,k≤A.length∧y=.int .i64 k∧Hid (∀i,i<k→hasR N (A.getD i 0))∧Hid (Below w.heap.size w wr)) (fun y _=>A.length-(RowKit.intOf y).toNat)
   case atStart=>exact⟨0,Nat.zero_le _,rfl,fun i h=>by omega,Below.refl _ _⟩
   case round=>
    obtain⟨k,hk,rfl,HE,HQ⟩:=hrel
    by_cases hlt:k<A.length
    ·have hlt':(k:Int)<A.length:=by omega
     obtain⟨b1,o1,rfl,hb1,g1⟩:=HZ.out.get hlt
     have q1:=(HQ.out.cell (p:=⟨b1,o1+k,none⟩) hb1).trans g1
     clear g1
     have HM:Hid (A.getD k 0∈A):=getD_mem hlt
     have HE2:Hid (hasR N (A.getD k 0)→∀i,i<k+1→hasR N (A.getD i 0)):=fun p i hi=>by
      rcases Nat.lt_or_ge i k with h|h
      ·exact HE.out i h
      ·obtain rfl:i=k:=by omega
       exact p
     clear HE
     generalize A.getD k 0=z at *
     have HA:=hide ((HH.out.below HQ.out).has z)
     have HI:=hide (hasN_iff (f:=z) N (n:=N.length) rfl)
     cases hb:hasN N.length z
     ·rw[hb] at HA
      have HD:Hid (¬Qp):=fun h=>by
       rw[←HQP.out] at h
       have:=h.2.2 z HM.out
       rw[←HI.out,hb] at this
       cases this
      clear hb
      go_wp2_with (go_at_call 51;refine HA.out.mono ?_;rintro e w1 ⟨rfl,hw1⟩;have hw2:=hw1.symm;clear hw1;subst hw2)
      go_ret
      exact⟨TellB.no HD.out,HQ.out⟩
     ·rw[hb] at HA
      have HE3:=hide (HE2.out (HI.out.1 hb))
      clear hb HE2
      go_wp2_with (go_at_call 51;refine HA.out.mono ?_;rintro e w1 ⟨rfl,hw1⟩;have hw2:=hw1.symm;clear hw1;subst hw2)
      go_roundw
      case rel=>exact⟨k+1,by omega,by go_num,HE3,HQ⟩
      case measure=>simp[RowKit.intOf];omega
    ·have hlt':¬(k:Int)<A.length:=by omega
     have HD:Hid Qp:=HQP.out▸⟨HM2.out.1,HM2.out.2,all_of_getD (fun i hi=>HE.out i (by omega))⟩
     go_wp2
     go_ret
     exact⟨TellB.yes HD.out,HQ.out⟩
set_option maxRecDepth 100000 in
set_option maxHeartbeats 1000000 in
theorem orderD_any (ao:Option Addr) (cap:Nat) (o:List Int) (n:Nat) (hn:n≤12) (hl:o.length≤140737488351232) (hz:ZAt w ao o):
 Calls Try.prog 65 #[.slice ao o.length cap,.int .i64 (n:Int)] w fun e w'=>TellB (OrdN o n) e∧Below w.heap.size w w':=by
 have HZ:=hide hz
 clear hz
 have hmk:=make_bools n (n:Int) rfl (by omega)
 have X1:Hid (Below w.heap.size w (w.alloc (.cells (bC (List.replicate n false)).toArray 4))):=al (Below.refl _ _) _
 have T1:Hid (RwT (w.alloc (.cells (bC (List.replicate n false)).toArray 4)) w.heap.size (List.replicate n false)):=heap_alloc_new w _
 have O1:Hid (OrI o n 0 (List.replicate n false)):=⟨by simp,fun j hj=>by simp[List.getD_eq_getElem?_getD,hj],by simp,by simp⟩
 go_enter Try.func65,Try.ntmps65
 go_upto_block 0 with fail
 clear hmk
 generalize w.alloc (.cells (bC (List.replicate n false)).toArray 4)=w1 at *
 go_wp2
 go_loopw [6] (fun v wr=>∃k:Nat,k≤o.length∧v=.int .i64 (k:Int)∧∃L,Hid (OrI o n k L)∧Hid (RwT wr w.heap.size L)∧Hid (Below w.heap.size w wr)) (fun v _=>o.length-(RowKit.intOf v).toNat)
 case atStart=>exact⟨0,Nat.zero_le _,rfl,_,O1,T1,X1⟩
 case round=>
  obtain⟨k,hk,rfl,L,OI,TI,XI⟩:=hrel
  clear O1 T1 X1
  by_cases hlk:k<o.length
  ·have hlk':(k:Int)<(o.length:Int):=by omega
   obtain⟨b1,o1,rfl,hb1,g1⟩:=HZ.out.get hlk
   have q1:=(XI.out.cell (p:=⟨b1,o1+k,none⟩) hb1).trans g1
   rw[show o.getD k 0=o[k] by rw[List.getD_eq_getElem?_getD,List.getElem?_eq_getElem hlk];rfl] at q1
   clear g1
   have HM:Hid (o[k]∈o):=List.getElem_mem hlk
   by_cases h0:o[k]<0
   ·have HD:Hid (¬OrdN o n):=fun h=>by have:=h.2.2 _ HM.out;omega
    go_wp2
    go_ret
    exact⟨TellB.no HD.out,XI.out⟩
   ·by_cases h1:(n:Int)≤o[k]
    ·have HD:Hid (¬OrdN o n):=fun h=>by have:=h.2.2 _ HM.out;omega
     go_wp2
     go_ret
     exact⟨TellB.no HD.out,XI.out⟩
    ·obtain⟨v,hv⟩:∃v:Nat,o[k]=(v:Int):=⟨(o[k]).toNat,by omega⟩
     have HV:=hide hv
     rw[hv] at q1 h0 h1
     have hvl:v<n:=by omega
     have hvl':(v:Int)<(n:Int):=by omega
     obtain⟨t1,t2⟩:=TI.out.cell (k:=v) (by rw[OI.out.len];exact hvl)
     clear hv
     cases hm:L.getD v false
     ·have OI2:=hide (OI.out.step hlk HV.out hvl hm)
      rw[hm] at t1
      clear hm
      go_wp2
      go_roundw
      case rel=>
       have k2:Kept (fun z=>z=w.heap.size) wr (wr.setCell ⟨w.heap.size,v,none⟩ (.bool true)):=Kept.setCell (F:=fun z=>z=w.heap.size) (p:=⟨w.heap.size,v,none⟩) (Kept.refl _ _) rfl _
       exact⟨k+1,by omega,by go_num,_,OI2,hide (TI.out.set v true),hide (XI.out.trans (k2.below XI.out.size (fun z hz=>by omega)))⟩
      case measure=>simp[RowKit.intOf];omega
     ·have HD:Hid (¬OrdN o n):=fun h=>by
       have hin:=(OI.out.met v hvl).1 hm
       obtain⟨i,hi,e⟩:=List.getElem_of_mem hin
       rw[List.length_take] at hi
       rw[List.getElem_take] at e
       have hp:=List.pairwise_iff_getElem.1 h.2.1 i k (by omega) hlk (by omega)
       exact hp (by rw[e,HV.out])
      rw[hm] at t1
      clear hm
      go_wp2
      go_ret
      exact⟨TellB.no HD.out,XI.out⟩
  ·have hlk':¬(k:Int)<(o.length:Int):=by omega
   obtain rfl:k=o.length:=by omega
   have h1:=OI.out.nod
   have h2:=OI.out.rng
   rw[List.take_length] at h1 h2
   by_cases hon:o.length=n
   ·have HD:Hid (OrdN o n):=⟨hon,h1,h2⟩
    have hon':(o.length:Int)=(n:Int):=by omega
    clear h1 h2
    go_wp2
    go_ret
    exact⟨TellB.yes HD.out,XI.out⟩
   ·have HD:Hid (¬OrdN o n):=fun h=>hon h.1
    have hon':¬(o.length:Int)=(n:Int):=by omega
    clear h1 h2
    go_wp2
    go_ret
    have HT:TellB (OrdN o n) (.returned (.bool ((o.length:Int)==(n:Int)))):=by
     rw[show((o.length:Int)==(n:Int))=false by simpa using hon']
     exact TellB.no HD.out
    exact⟨HT,XI.out⟩
end
end Go.Proofs.Ytnddhkhmbjeefaa

