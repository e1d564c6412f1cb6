/-
  putKids by its contract, where put is known of the next level. Condition: a diagram's row.
-/
import Derived.Test.YtnddhkhmbjeefaaC22
import Derived.Test.YtnddhkhmbjeefaaC19
namespace Go.Proofs.Ytnddhkhmbjeefaa
open Go.RowKit Go.Lib Go.Maps
def slLen:Value→Nat
 |.slice _ n _=>n
 |_=>0
section
variable {w:World} {B:Nat} {x:BdA} {S:List Int} {M:Int} {Ls:List LA} {N:List Nd} {V:Nat→List Int} {P:Nat→Prop} {T:List Lay} {row:List Rn} {g:Nat→Int} {i s rb rc:Nat}
set_option maxRecDepth 100000 in
set_option maxHeartbeats 4000000 in
theorem putKids_any (hW:Wf S (layL Ls)) (hLn:Ls.length=S.length) (h:BdX w B x S M Ls N V P) (hi:i<Ls.length) (hT:T=(layL Ls).drop (i+1)) (hr:RwB w rb row) (hrB:rb<B) (hrow:row=rlN g s) (hs:(s:Int)=szL S (Ls[i]).lv) (hs0:0<s) (hs1:s≤256) (hg:∀c,c<s→inW T (g c))
 (ih:∀(w:World) (N:List Nd) (V:Nat→List Int) (P:Nat→Prop) (t:Nat),BdX w B x S M Ls N V P→inW T (t:Int)→Calls Try.prog 63 #[.pointer (some ⟨x.b,0,none⟩),.int .i64 ((i+1:Nat):Int),.int .i32 (t:Int)] w fun e w'=>PuL B x S M Ls N P (rowF (ordL Ls) T (t:Int)) w e w'):
 Calls Try.prog 76 #[.pointer (some ⟨x.b,0,none⟩),.int .i64 (i:Int),.slice (some ⟨rb,0,none⟩) row.length rc] w fun e w'=>KdL B x S M Ls N P T row s w e w':=by
 obtain⟨i3,hi3,hz30,hz31,hz32⟩:=info_parts Try.info3
 have HH:=hide h
 have HR:=hide (And.intro hr hrB)
 have HROW:=hide hrow
 have IH:=hide ih
 have HOUT:Hid (∀(N:List Nd) (t:Int),Ok (ledS S (ordL Ls)) M N→Out (ledS S (ordL Ls)) M N (rowF (ordL Ls) T t) (i+1) (ins (ledS S (ordL Ls)) M N (rowF (ordL Ls) T t))):=fun N t ok=>by
  have e:layL Ls=(layL Ls).take (i+1)++T:=by rw[hT,List.take_append_drop]
  have hl:((layL Ls).take (i+1)).length=i+1:=by rw[List.length_take,List.length_map];omega
  have:=ins_out ok (l:=((layL Ls).take (i+1)).length) (by rw[hl,ledS,List.length_map,List.length_map,List.length_map];omega) (rowF_hang hW e (x:=t))
  rw[hl] at this
  exact this
 have HLOW:Hid (BdLow x Ls.length w.heap.size):=h.lts
 have HIN:Hid (∀j (hj:j<row.length),inW T (row[j]).2):=fun j hj=>by
  have ok:=runs_ok g s
  rw[←hrow] at ok
  obtain⟨g0,g1,g2,g3⟩:=ok.each j hj
  rw[←g3 (loR row j).toNat (by omega) (by omega)]
  exact hg _ (by omega)
 have HRN:Hid (RunsOk g s row):=by
  have ok:=runs_ok g s
  rw[←hrow] at ok
  exact ok
 have hrl:row.length≤256:=by rw[hrow];exact Nat.le_trans (rlN_len g s) hs1
 obtain⟨c0,c1,c2,c3⟩:=h.cells
 have c4:w.cell? ⟨x.sb,i,none⟩=some (.int .i64 (s:Int)):=by
  rw[h.sz.cell (by rw[ledS,List.length_map,List.length_map,List.length_map];exact hi),hs,ledS_at (lv:=(Ls[i]).lv) (by simp[ordL,LA.lay,List.getElem?_map,List.getElem?_eq_getElem hi])]
 have hi':(i:Int)<(Ls.length:Int):=by omega
 have hee:IntKind.i64.wrap ((i:Int)+1)=((i+1:Nat):Int):=by
  have:=h.lay.lt
  have hS:=h.ar.ok.sz.le
  rw[ledS,List.length_map,List.length_map,List.length_map] at hS
  simp[IntKind.wrap,IntKind.bits,IntKind.signed];omega
 clear h hr hrB hrow ih hT hW hLn hg hs
 go_enter Try.func76,Try.ntmps76
 go_upto_region 3 with(at_make;refine wpList_make_own _ rfl (.const (.int .i64 0)) (.tmp 19) 22 rfl w.heap.size 3 i3 (.int .i64 0) 1 Try.underlying22 hi3 hz30 hz31 .i64 .i64 _ s rfl rfl (by push_cast;rfl) (by rw[hz32];omega) (by unfold maxLen;omega) (Nat.le_refl _) ?_;intro w1 m1 m2;have M1:=hide m1;have M2:=hide (below_of_grown m2);clear m1 m2)
 have ST:Hid (KdI w w1 B x S M Ls N P T row (loR row 0).toNat (.slice (some ⟨w.heap.size,0,none⟩) 0 s) [] N V P):=⟨HH.out.below M2.out,M1.out,fun z hz hp=>(by have e:w.heap.size=z:=Option.some.inj hz;have:=HH.out.ar.plt hp;omega),rfl,rfl,Kept.of_below M2.out,fun z hz=>.inl hz⟩
 clear c0 c1 c2 c3 c4 M1 M2
 go_wp2
 go_loopw [8,23] (fun v8 v23 wr=>∃j:Nat,j≤row.length∧v23=.int .i64 (j:Int)∧∃ca cn cc,v8=.slice ca cn cc∧∃ks N1 V1 P1,Hid (KdI w wr B x S M Ls N P T row (loR row j).toNat (.slice ca cn cc) ks N1 V1 P1)∧Hid (ks.length=cn)) (fun _ v _=>row.length-(RowKit.intOf v).toNat)
 case atStart=>exact⟨0,Nat.zero_le _,rfl,_,_,_,rfl,[],N,V,P,ST,hide rfl⟩
 case round=>
  obtain⟨j,hj,rfl,ca,cn,cc,rfl,ks,N1,V1,P1,KI,CN⟩:=hrel
  clear ST
  generalize wr=wo at *
  by_cases hlj:j<row.length
  ·have hlj':(j:Int)<(row.length:Int):=by omega
   have belB:Below B w wo:=KI.out.kp.below HH.out.hB (fun k hk=>by
    rcases hk with hk|⟨q,hq,rfl⟩
    ·exact HH.out.hi k hk
    ·exact(HH.out.mB q hq).1)
   obtain⟨q1,q2⟩:=(HR.out.1.belowN belB HR.out.2).cell hlj
   clear belB
   obtain⟨hi0,hi1,hi2,_⟩:=HRN.out.each j hlj
   have hke:IntKind.i64.wrap (row[j]).1=(row[j]).1:=by simp[IntKind.wrap,IntKind.bits,IntKind.signed];omega
   go_upto_region 5 with fail
   have X1:Hid (Below wo.heap.size wo (wo.alloc (.cells #[.int .i32 (row[j]).1,.int .i32 (row[j]).2] 134))):=al (Below.refl _ _) _
   have RB1:Hid ((wo.alloc (.cells #[.int .i32 (row[j]).1,.int .i32 (row[j]).2] 134)).heap[wo.heap.size]? =some (.cells #[.int .i32 (row[j]).1,.int .i32 (row[j]).2] 134 (0,0))):=heap_alloc_new wo _
   clear q1 q2
   have BD1:=hide (KI.out.bd.below X1.out)
   have OW1:=hide (own_below KI.out.ow X1.out)
   have KP1:=hide (KI.out.kp.trans (Kept.of_below X1.out))
   have NBW:Hid (w.heap.size≤wo.heap.size):=KI.out.kp.size
   have NBP:Hid (¬P1 wo.heap.size):=fun hp=>absurd (KI.out.bd.ar.plt hp) (Nat.lt_irrefl _)
   generalize wo.alloc (.cells #[.int .i32 (row[j]).1,.int .i32 (row[j]).2] 134)=w1a at *
   generalize wo.heap.size=nb at *
   obtain⟨t,ht⟩:∃t:Nat,(row[j]).2=(t:Int):=⟨(row[j]).2.toNat,by have:=(HIN.out j hlj).1;omega⟩
   have p1:w1a.cell? ⟨nb,1,none⟩=some (.int .i32 (t:Int)):=by rw[cell_of_row w1a _ _ _ _ _ RB1.out,←ht];rfl
   have HTK:=hide ht
   obtain⟨f,er,N2,hz⟩:∃f er N2,ins (ledS S (ordL Ls)) M N1 (rowF (ordL Ls) T (t:Int))=(f,er,N2):=⟨_,_,_,rfl⟩
   have CS:=hide (IH.out w1a N1 V1 P1 t BD1.out (by rw[←ht];exact HIN.out j hlj))
   unfold PuL at CS
   rw[hz] at CS
   have OT:=HOUT.out N1 (t:Int) KI.out.bd.ar.ok
   rw[hz] at OT
   have HOT:=hide OT
   have HZ:=hide hz
   clear hz OT ht
   by_cases her:er=0
   ·subst her
    go_upto_region 8 with(go_at_call 63;refine CS.out.mono ?_;rintro en w3 ⟨rfl,V2,P2,hb,hk3,hn3⟩;have BD3:=hide hb;have KP3:=hide hk3;have PN3:=hide hn3;clear hb hk3 hn3)
    have NF:Hid (∀z,(Value.slice ca cn cc).ownBlock=some z→¬BdF x Ls.length P1 z):=fun z hz hF=>by
     have hz1:=(World.ownsRow.lt KI.out.ow z hz).1
     rcases hF with hF|⟨q,hq,rfl⟩
     ·exact KI.out.nv z hz hF
     ·have:=HLOW.out.2.2.2 q hq
      omega
    have NBF:Hid (¬BdF x Ls.length P1 nb):=fun hF=>by
     rcases hF with hF|⟨q,hq,e⟩
     ·exact NBP.out hF
     ·have:=HLOW.out.2.2.2 q hq
      have:=NBW.out
      omega
    have OW3:=own_kept OW1.out KP3.out NF.out
    have RB3:=(KP3.out.block nb (lt_of_block RB1.out) NBF.out).trans RB1.out
    have ST2:Hid (KdJ w w3 B x S M Ls P nb row[j] (.slice ca cn cc) ks N2 V2 P2):=⟨BD3.out,OW3,fun z hz hp=>by
     rcases PN3.out z hp with h1|h1
     ·exact KI.out.nv z hz h1
     ·have:=(World.ownsRow.lt OW1.out z hz).2
      omega,RB3,KP1.out.trans_new KP3.out (fun z hz hF=>by
     rcases hF with hF|hF
     ·rcases KI.out.pn z hF with h1|h1
      ·exact .inl h1
      ·omega
     ·exact .inr hF),fun z hp=>by
     rcases PN3.out z hp with h1|h1
     ·exact KI.out.pn z h1
     ·exact .inr (Nat.le_trans KP1.out.size h1)⟩
    clear OW3 RB3 NF NBF BD3 KP3 PN3 CS OW1 RB1 KP1 BD1 p1
    obtain⟨lo,hlo⟩:∃lo:Nat,(loR row j)=(lo:Int):=⟨(loR row j).toNat,by omega⟩
    obtain⟨hi9,hhi⟩:∃hi9:Nat,(row[j]).1=(hi9:Int):=⟨(row[j]).1.toNat,by omega⟩
    have LEN:=KI.out.len
    rw[hlo,Int.toNat_natCast,CN.out] at LEN
    rw[hhi] at hke hi1 hi2
    rw[hlo] at hi1
    have HLO:=hide hlo
    have HHI:=hide hhi
    have HLEN:=hide LEN
    clear hlo hhi LEN hi0
    go_wp2
    go_loopw [8] (fun v8 wr=>∃m:Nat,lo+m≤hi9∧∃ca2 cc2,v8=.slice ca2 (lo+m) cc2∧Hid (KdJ w wr B x S M Ls P nb row[j] (.slice ca2 (lo+m) cc2) (ks++List.replicate m f) N2 V2 P2)) (fun v _=>hi9-slLen v)
    case atStart=>
     obtain rfl:cn=lo:=HLEN.out
     exact⟨0,by omega,ca,cc,rfl,by rw[List.replicate_zero,List.append_nil];exact ST2⟩
    case round=>
     obtain⟨m,hm,ca2,cc2,rfl,KJ⟩:=hrel
     clear ST2
     have KSL:Hid ((ks++List.replicate m f).length=lo+m):=by
      unfold Hid
      rw[List.length_append,List.length_replicate,CN.out,HLEN.out]
     have r0:wr.cell? ⟨nb,0,none⟩=some (.int .i32 (hi9:Int)):=by rw[cell_of_row wr _ _ _ _ _ KJ.out.rb,←HHI.out];rfl
     by_cases hlm:lo+m<hi9
     ·have hlm':((lo+m:Nat):Int)<(hi9:Int):=by omega
      have hlm2:(lo:Int)+(m:Int)<(hi9:Int):=by omega
      have OWJ:Hid (wr.ownsRow w.heap.size 3 1 (.slice ca2 (lo+m) cc2) (lo+m) (zC (ks++List.replicate m f))):=by
       have:=KJ.out.ow
       rw[KSL.out] at this
       exact this
      have X5:Hid (Below wr.heap.size wr (wr.alloc (.cells #[.int .i64 f] 3))):=al (Below.refl _ _) _
      have SWJ:=hide (Nat.le_trans KJ.out.kp.size X5.out.size)
      go_wp2_with (at_builtin;refine wpList_append_view rfl (.tmp 45) (.tmp 47) 22 rfl w.heap.size 3 i3 (.int .i64 0) 1 8 Try.underlying22 hi3 hz30 hz31 hz32 rfl (by decide) _ (lo+m) (zC (ks++List.replicate m f)) rfl (own_below OWJ.out X5.out) ⟨wr.heap.size,0,none⟩ 1 1 [.int .i64 f] rfl rfl (one_new wr _ _) (by simp[Value.oneCell']) (by decide) (by unfold maxLen;omega) (by omega) SWJ.out ?_;intro v4 w4 h1 h2;have O4:=hide h1;have G4:=hide (appG h2);obtain⟨ca4,cc4,rfl,-⟩:=own_shape h1;clear h1 h2)
      go_roundw
      case rel=>
       have st:=KJ.out.step HLOW.out HH.out.hB X5.out (by rw[KSL.out];exact O4.out) G4.out
       rw[List.append_assoc,←List.replicate_succ'] at st
       exact⟨m+1,by omega,ca4,cc4,rfl,st⟩
      case measure=>simp[slLen];omega
     ·have hlm':¬((lo+m:Nat):Int)<(hi9:Int):=by omega
      have hlm2:¬(lo:Int)+(m:Int)<(hi9:Int):=by omega
      go_wp2
      go_roundw
      case rel=>
       rcases HOT.out.res with⟨_,hrep,_⟩|⟨h1,_⟩
       ·have hd:=run_done HROW.out hlj KI.out.kf (by rw[HTK.out,HZ.out]) (by rw[HTK.out,HZ.out];exact HOT.out.ok) (by rw[HTK.out,HZ.out];exact hrep)
        rw[HTK.out,HZ.out] at hd
        have em:(row[j]).1.toNat-(loR row j).toNat=m:=by rw[HHI.out,HLO.out];omega
        rw[em] at hd
        refine⟨j+1,by omega,by go_num,ca2,_,cc2,rfl,ks++List.replicate m f,N2,V2,P2,hide ⟨KJ.out.bd,KJ.out.ow,KJ.out.nv,hd,?_,KJ.out.kp,KJ.out.pn⟩,KSL⟩
        rw[KSL.out,loR_succ hlj,HHI.out]
        omega
       ·exact absurd (show(0:Int)=2 from h1) (by decide)
      case measure=>simp[RowKit.intOf];omega
   ·go_wp2_with (go_at_call 63;refine CS.out.mono ?_;rintro en w3 ⟨rfl,V2,P2,hb,hk3,hn3⟩;have BD3:=hide hb;have KP3:=hide hk3;have PN3:=hide hn3;clear hb hk3 hn3)
    go_ret2
    have hst:=run_stop HROW.out hlj KI.out.kf (by rw[HTK.out,HZ.out];exact her)
    rw[HTK.out,HZ.out] at hst
    refine⟨none,0,by rw[hst];rfl,by rw[hst];exact .inl rfl,V2,P2,by rw[hst];exact BD3.out,KP1.out.trans_new KP3.out (fun z hz hF=>?_),fun z hp=>?_⟩
    ·rcases hF with hF|hF
     ·rcases KI.out.pn z hF with h1|h1
      ·exact .inl h1
      ·omega
     ·exact .inr hF
    ·rcases PN3.out z hp with h1|h1
     ·exact KI.out.pn z h1
     ·exact .inr (Nat.le_trans KP1.out.size h1)
  ·have hlj':¬(j:Int)<(row.length:Int):=by omega
   obtain rfl:j=row.length:=by omega
   go_wp2
   go_ret2
   have hk:=KI.out.kf
   rw[HRN.out.last,Int.toNat_natCast] at hk
   have hz:ZAt wo ca ks:=by
    rcases KI.out.ow.2 with⟨e,h0⟩|⟨g',cap',cur,e,hgb,hgc,_⟩
    ·exact .inl (List.length_eq_zero_iff.1 h0)
    ·injection e with e1 e2 e3
     subst e1
     refine .inr ⟨g',0,rfl,lt_of_block hgc,fun q hq=>?_⟩
     have o2:=KI.out.ow
     rw[←CN.out] at o2
     have:=World.ownsRow.cellAt o2 q (by simp;exact hq)
     rw[Nat.zero_add,this]
     simp[zC,List.getD_eq_getElem?_getD,List.getElem?_eq_getElem hq]
   refine⟨ca,cc,by rw[hk,←CN.out];rfl,by rw[hk];exact hz,V1,P1,by rw[hk];exact KI.out.bd,KI.out.kp,KI.out.pn⟩
end
section
variable {w:World} {B:Nat} {x:BdA} {S:List Int} {M:Int} {Ls:List LA} {N:List Nd} {V:Nat→List Int} {P:Nat→Prop} {i t:Nat}
theorem rep_low {T:List Lay} {o:List Int} (ho:IsOrd S o) (hT:Wf S T) {q:Int} (h0:0≤q) (h1:¬2≤q):Rep (ledS S o) N (rowF o T q) q:=by
 refine⟨⟨h0,by omega⟩,fun p hp=>?_⟩
 rw[sayR_low h1]
 have:=say_const hT (led_pnt ho hp)
 unfold rowF
 rcases (by omega:q=0∨q=1) with rfl|rfl
 ·rw[this.1];rfl
 ·rw[this.2];rfl
theorem Wf.dropN:∀(k:Nat) {L:List Lay},Wf S L→Wf S (L.drop k)
 |0,_,h=>h
 |_+1,[],_=>trivial
 |k+1,_::_,h=>Wf.dropN k h.2.2
theorem put_low (hW:Wf S (layL Ls)) (hLn:Ls.length=S.length) (h:BdX w B x S M Ls N V P) (ht:¬2≤t):
 Calls Try.prog 63 #[.pointer (some ⟨x.b,0,none⟩),.int .i64 (i:Int),.int .i32 (t:Int)] w fun e w'=>PuL B x S M Ls N P (rowF (ordL Ls) ((layL Ls).drop i) (t:Int)) w e w':=by
 have hlt:(t:Int)<2:=by omega
 have he:IntKind.i64.wrap (t:Int)=(t:Int):=by simp[IntKind.wrap,IntKind.bits,IntKind.signed];omega
 have HI:Hid (ins (ledS S (ordL Ls)) M N (rowF (ordL Ls) ((layL Ls).drop i) (t:Int))=((t:Int),0,N)):=ins_rep h.ar.ok (rep_low (hW.ord (by rw[List.length_map];exact hLn)) (Wf.dropN i hW) (by omega) (by omega))
 have HH:=hide h
 clear h hW hLn
 go_enter Try.func63,Try.ntmps63
 go_wp2
 go_ret2
 unfold PuL
 rw[HI.out]
 exact⟨rfl,V,P,HH.out,Kept.refl _ _,fun k hk=>.inl hk⟩
theorem put_hit (h:BdX w B x S M Ls N V P) (hi:i<Ls.length) (ht:2≤t) (htl:t<(Ls[i]).Rs.length) (hv:(V i).getD t 0≠0):
 Calls Try.prog 63 #[.pointer (some ⟨x.b,0,none⟩),.int .i64 (i:Int),.int .i32 (t:Int)] w fun e w'=>PuL B x S M Ls N P (rowF (ordL Ls) ((layL Ls).drop i) (t:Int)) w e w':=by
 have hlt:¬(t:Int)<2:=by omega
 obtain⟨c0,c1,c2,c3⟩:=h.cells
 have d0:=h.made hi
 obtain⟨d1,_⟩:=h.known hi htl
 have hr:=(h.kn i hi t (by rw[(h.row i hi).2];exact htl)).resolve_left hv
 have HI:=hide (ins_rep h.ar.ok hr)
 have HH:=hide h
 have hi':(i:Int)<(Ls.length:Int):=by omega
 have htl':(t:Int)<((Ls[i]).Rs.length:Int):=by omega
 clear h hr
 generalize rowF (ordL Ls) ((layL Ls).drop i) (t:Int)=φ at *
 generalize (V i).getD t 0=v at *
 generalize (Ls[i]).Rs.length=nr at *
 go_enter Try.func63,Try.ntmps63
 go_wp2
 go_ret2
 unfold PuL
 rw[HI.out]
 exact⟨rfl,V,P,HH.out,Kept.refl _ _,fun k hk=>.inl hk⟩
theorem BdX.make {w3:World} {N3:List Nd} {lv f e:Int} {ks:List Int} {P3:Nat→Prop} (h:BdX w B x S M Ls N V P) (mk:MkP (ledS S (ordL Ls)) M N lv ks f e N3) (ca:CA w3 x.a (ledS S (ordL Ls)) M N3 (N.length+1) P3) (kp:Kept P w w3) (pn:∀k,P3 k→P k∨w.heap.size≤k) (same:N3=N→Below w.heap.size w w3):∃P4,BdX w3 B x S M Ls N3 V P4∧∀k,P4 k→P k∨w.heap.size≤k:=by
 have key:N3=N∨N3=N++[(lv,ks)]:=by
  rcases mk with⟨_,_,_,e⟩|⟨_,_,_,_,e⟩|⟨_,_,_,_,e⟩|⟨_,_,_,_,_,_,e⟩|⟨_,_,_,_,_,_,e⟩
  ·exact .inl e
  ·exact .inl e
  ·exact .inl e
  ·exact .inl e
  ·exact .inr e
 rcases key with e|e
 ·have b:=same e
  subst e
  exact⟨P,h.below b,fun k hk=>.inl hk⟩
 ·subst e
  exact⟨P3,h.more kp pn (by rw[List.length_append];exact ca),pn⟩
set_option maxRecDepth 100000 in
set_option maxHeartbeats 4000000 in
theorem put_miss (hS:SzOk S) (hW:Wf S (layL Ls)) (hLn:Ls.length=S.length) (h:BdX w B x S M Ls N V P) (hi:i<Ls.length) (ht:2≤t) (htl:t<(Ls[i]).Rs.length) (hv:(V i).getD t 0=0)
 (ih:∀(w:World) (N:List Nd) (V:Nat→List Int) (P:Nat→Prop) (t:Nat),BdX w B x S M Ls N V P→inW ((layL Ls).drop (i+1)) (t:Int)→Calls Try.prog 63 #[.pointer (some ⟨x.b,0,none⟩),.int .i64 ((i+1:Nat):Int),.int .i32 (t:Int)] w fun e w'=>PuL B x S M Ls N P (rowF (ordL Ls) ((layL Ls).drop (i+1)) (t:Int)) w e w'):
 Calls Try.prog 63 #[.pointer (some ⟨x.b,0,none⟩),.int .i64 (i:Int),.int .i32 (t:Int)] w fun e w'=>PuL B x S M Ls N P (rowF (ordL Ls) ((layL Ls).drop i) (t:Int)) w e w':=by
 have hlt:¬(t:Int)<2:=by omega
 have hiL:i<(layL Ls).length:=by rw[List.length_map];exact hi
 have eD:(layL Ls).drop i=(Ls[i]).lay::(layL Ls).drop (i+1):=by rw[List.drop_eq_getElem_cons hiL,List.getElem_map]
 have eL:layL Ls=(layL Ls).take i++((Ls[i]).lay::(layL Ls).drop (i+1)):=by rw[←eD,List.take_append_drop]
 have hA:((layL Ls).take i).length=i:=by rw[List.length_take,List.length_map];omega
 have wl:Wf S ((Ls[i]).lay::(layL Ls).drop (i+1)):=by rw[←eD];exact Wf.dropN i hW
 have hin:inW ((Ls[i]).lay::(layL Ls).drop (i+1)) (t:Int):=⟨by omega,by show(t:Int)<((rdR (Ls[i]).Rs).length:Int);simp[rdR];exact htl⟩
 have hsz:1≤szL S (Ls[i]).lv∧szL S (Ls[i]).lv≤256:=hS.at wl.1.ge wl.1.lt
 obtain⟨g,eg,hg⟩:=wl.1.at hin
 have erow:((Ls[i]).lay).2.getD (t:Int).toNat []=((Ls[i]).Rs[t]).r:=by
  simp[LA.lay,rdR,List.getD_eq_getElem?_getD,List.getElem?_map,List.getElem?_eq_getElem htl]
 rw[erow] at eg
 obtain⟨s,hs⟩:∃s:Nat,(s:Int)=szL S (Ls[i]).lv:=⟨(szL S (Ls[i]).lv).toNat,by omega⟩
 have eg':((Ls[i]).Rs[t]).r=rlN g s:=by rw[eg];congr 1;show(szL S (Ls[i]).lv).toNat=s;omega
 have lyi:=h.lay.ly (Ls[i]) (List.getElem_mem hi)
 obtain⟨r1,r2,r3⟩:=lyi.row ((Ls[i]).Rs[t]) (List.getElem_mem htl)
 have CK:=hide (fun(rc:Nat)=>putKids_any (rc:=rc) hW hLn h hi rfl r1 r3 eg' hs (by omega) (by omega) (fun c hc=>hg c (by show c<(szL S (Ls[i]).lv).toNat;omega)) ih)
 have hcut:cuts (ledS S (ordL Ls)) (rowF (ordL Ls) ((layL Ls).drop i) (t:Int)) i=upTo (ordL Ls) ((layL Ls).drop (i+1)) ((Ls[i]).Rs[t]).r s:=by
  have:=cuts_rows hW eL (t:Int)
  rw[hA,erow] at this
  rw[eD,this]
  congr 1
  show(szL S (Ls[i]).lv).toNat=s
  omega
 have hang:Hang (ledS S (ordL Ls)) (rowF (ordL Ls) ((layL Ls).drop i) (t:Int)) i:=by
  have:=rowF_hang hW eL (x:=(t:Int))
  rw[hA,←eD] at this
  exact this
 have hil:i<(ledS S (ordL Ls)).length:=by rw[ledS,List.length_map,List.length_map,List.length_map];exact hi
 have HOUT:=hide (ins_out h.ar.ok (Nat.le_of_lt hil) hang)
 have HEXP:=hide (ins_exp h.ar.ok hil hang)
 unfold expF at HEXP
 rw[hcut] at HEXP
 unfold KdL at CK
 have KOK:Hid (Ok (ledS S (ordL Ls)) M (kidsF (ins (ledS S (ordL Ls)) M) N (upTo (ordL Ls) ((layL Ls).drop (i+1)) ((Ls[i]).Rs[t]).r s)).2.2∧(kidsF (ins (ledS S (ordL Ls)) M) N (upTo (ordL Ls) ((layL Ls).drop (i+1)) ((Ls[i]).Rs[t]).r s)).1.length≤256∧∃T,(kidsF (ins (ledS S (ordL Ls)) M) N (upTo (ordL Ls) ((layL Ls).drop (i+1)) ((Ls[i]).Rs[t]).r s)).2.2=N++T):=by
  have ko:=kids_out (step:=ins (ledS S (ordL Ls)) M) (l:=i+1) (cuts (ledS S (ordL Ls)) (rowF (ordL Ls) ((layL Ls).drop i) (t:Int)) i) N h.ar.ok (fun ψ hψ N' hN=>by
   obtain⟨c,hc,rfl⟩:=cuts_mem hψ
   exact ins_out hN (by omega) (hang.cut hc))
  rw[hcut] at ko
  refine⟨ko.ok,?_,ko.ext⟩
  rcases ko.res with⟨_,h1,_⟩|⟨_,h1⟩
  ·rw[h1];simp[upTo];omega
  ·rw[h1];simp
 obtain⟨ks,er,N2,hz⟩:∃ks er N2,kidsF (ins (ledS S (ordL Ls)) M) N (upTo (ordL Ls) ((layL Ls).drop (i+1)) ((Ls[i]).Rs[t]).r s)=(ks,er,N2):=⟨_,_,_,rfl⟩
 rw[hz] at CK HEXP KOK
 have l1:=(h.lay.cl i hi).2
 have l2:=lyi.cell htl
 rw[Nat.zero_add] at l1
 obtain⟨c0,c1,c2,c3⟩:=h.cells
 have d0:=h.made hi
 have d1:=(h.known hi htl).1
 rw[hv] at d1
 have HH:=hide h
 have hi':(i:Int)<(Ls.length:Int):=by omega
 have htl':(t:Int)<((Ls[i]).Rs.length:Int):=by omega
 have HLT:=hide (And.intro hi htl)
 clear hW hLn ih eD eL hA wl hin hsz eg hg erow eg' lyi r1 r2 r3 hcut hang hil hz hs
 generalize hφ:rowF (ordL Ls) ((layL Ls).drop i) (t:Int)=φ at *
 have HPH:=hide hφ
 clear hφ
 by_cases her:er=0
 ·subst her
  rw[if_pos rfl] at HEXP
  go_enter Try.func63,Try.ntmps63
  go_upto_region 9 with(go_at_call 76;refine(CK.out _).mono ?_;rintro en w2 ⟨ao,c,rfl,hz2,V2,P2,hb,hk,hn⟩;have HZ2:=hide hz2;have BD2:=hide hb;have KP2:=hide hk;have PN2:=hide hn;clear hz2 hb hk hn)
  clear c0 c1 c2 c3 d0 d1 l1 l2
  have e0:=BD2.out.cells.1
  have HMK:=hide (BD2.out.ar.make (i:Int) ao c ks (by have:=KOK.out.2.1;omega) HZ2.out (by have h1:=KOK.out.1.few;have h2:=BD2.out.ar.m8;omega))
  go_wp2_with (go_at_call 22;refine HMK.out.mono ?_;rintro en w3 ⟨f,e3,N3,rfl,mk,P3,ca3,kp3,pn3,same3⟩;obtain⟨P4,bd4,pn4⟩:=BD2.out.make mk ca3 kp3 pn3 same3;have BD4:=hide bd4;have PN4:=hide pn4;have KP3:=hide kp3;have MK:=hide mk;obtain⟨f0,f1,f2,f3⟩:=bd4.cells;have g0:=bd4.made HLT.out.1;obtain⟨g1,g2⟩:=bd4.known HLT.out.1 HLT.out.2;clear mk ca3 kp3 pn3 same3 bd4 pn4)
  go_ret2
  have hins:ins (ledS S (ordL Ls)) M N φ=(f,e3,N3):=by
   rw[HEXP.out]
   exact mkF_of KOK.out.1.nod MK.out
  have hres:=HOUT.out.res
  rw[hins] at hres
  have hf:f=0∨Rep (ledS S (ordL Ls)) N3 (rowF (ordL Ls) ((layL Ls).drop i) (t:Int)) f:=by
   rw[HPH.out]
   rcases hres with⟨_,h1,_⟩|⟨_,h1⟩
   ·exact .inr h1
   ·exact .inl h1
  have BD5:=BD4.out.put HLT.out.1 HLT.out.2 hf
  unfold PuL
  rw[hins]
  have k5:Kept (BdF x Ls.length P) w3 (w3.setCell ⟨x.mr i,t,none⟩ (.int .i64 f)):=Kept.setCell (F:=BdF x Ls.length P) (p:=⟨x.mr i,t,none⟩) (Kept.refl _ _) (.inr ⟨i,HLT.out.1,rfl⟩) _
  have k3:Kept (BdF x Ls.length P) w w3:=KP2.out.trans_new KP3.out (fun z hz hp=>.inl ((PN2.out z hp).resolve_right (by omega)))
  refine⟨rfl,_,P4,BD5,k3.trans k5,fun k hk=>?_⟩
  rcases PN4.out k hk with h1|h1
  ·exact PN2.out k h1
  ·exact .inr (Nat.le_trans KP2.out.size h1)
 ·rw[if_neg her] at HEXP
  go_enter Try.func63,Try.ntmps63
  go_wp2_with (go_at_call 76;refine(CK.out _).mono ?_;rintro en w2 ⟨ao,c,rfl,hz2,V2,P2,hb,hk,hn⟩;have HZ2:=hide hz2;have BD2:=hide hb;have KP2:=hide hk;have PN2:=hide hn;clear hz2 hb hk hn)
  go_ret2
  unfold PuL
  rw[HEXP.out]
  exact⟨rfl,V2,P2,BD2.out,KP2.out,PN2.out⟩
theorem put_any (hS:SzOk S) (hW:Wf S (layL Ls)) (hLn:Ls.length=S.length):∀(d i:Nat),i+d=Ls.length→∀(w:World) (N:List Nd) (V:Nat→List Int) (P:Nat→Prop) (t:Nat),BdX w B x S M Ls N V P→inW ((layL Ls).drop i) (t:Int)→Calls Try.prog 63 #[.pointer (some ⟨x.b,0,none⟩),.int .i64 (i:Int),.int .i32 (t:Int)] w fun e w'=>PuL B x S M Ls N P (rowF (ordL Ls) ((layL Ls).drop i) (t:Int)) w e w'
 |0,i,hd,w,N,V,P,t,h,hin=>by
  have e:(layL Ls).drop i=[]:=List.drop_eq_nil_of_le (by rw[List.length_map];omega)
  refine put_low hW hLn h (fun h2=>?_)
  rw[e] at hin
  have:(t:Int)<2:=hin.2
  omega
 |d+1,i,hd,w,N,V,P,t,h,hin=>by
  by_cases ht:2≤t
  ·have hi:i<Ls.length:=by omega
   have hiL:i<(layL Ls).length:=by rw[List.length_map];exact hi
   have htl:t<(Ls[i]).Rs.length:=by
    rw[List.drop_eq_getElem_cons hiL,List.getElem_map] at hin
    have:(t:Int)<((rdR (Ls[i]).Rs).length:Int):=hin.2
    simp[rdR] at this
    exact this
   by_cases hv:(V i).getD t 0=0
   ·exact put_miss hS hW hLn h hi ht htl hv (fun w N V P t h hin=>put_any hS hW hLn d (i+1) (by omega) w N V P t h hin)
   ·exact put_hit h hi ht htl hv
  ·exact put_low hW hLn h ht
end
section
variable {w:World} {B lb lc rc:Nat} {ra:Option Addr} {R:List Int} {Ls:List LA}
set_option maxRecDepth 100000 in
set_option maxHeartbeats 2000000 in
theorem dsizes_any {S:List Int} (hS:SzOk S) (hl:Ls.length≤12) (hw:Wf S (layL Ls)) (D:DgX w B ra lb lc R Ls):
 Calls Try.prog 62 #[dgV ra R.length rc lb Ls.length lc] w fun e w'=>∃g,e=.returned (.slice (some ⟨g,0,none⟩) Ls.length Ls.length)∧RwZ w' g (Ls.map fun x=>szL S x.lv)∧w.heap.size≤g∧Below w.heap.size w w':=by
 have HD:=hide D
 have HW:=hide hw
 have HSZ:=hide hS
 have hBw:=D.hB
 have X1:Hid (Below w.heap.size w (w.alloc (.cells #[.slice ra R.length rc,.slice (some ⟨lb,0,none⟩) Ls.length lc] 70))):=al (Below.refl _ _) _
 have D1:Hid ((w.alloc (.cells #[.slice ra R.length rc,.slice (some ⟨lb,0,none⟩) Ls.length lc] 70)).heap[w.heap.size]? =some (.cells #[.slice ra R.length rc,.slice (some ⟨lb,0,none⟩) Ls.length lc] 70 (0,0))):=heap_alloc_new w _
 have hmk:=make_ints Ls.length (Ls.length:Int) rfl (by omega)
 clear D hw hS
 go_enter Try.func62,Try.ntmps62
 go_upto_region 1 with fail
 generalize w.alloc (.cells #[.slice ra R.length rc,.slice (some ⟨lb,0,none⟩) Ls.length lc] 70)=w1 at *
 have d1:w1.cell? ⟨w.heap.size,1,none⟩=some (.slice (some ⟨lb,0,none⟩) Ls.length lc):=by rw[cell_of_row w1 _ _ _ _ _ D1.out];rfl
 have SZ1:Hid (w.heap.size<w1.heap.size):=lt_of_block D1.out
 go_upto_region 2 with fail
 have X2:Hid (Below w1.heap.size w1 (w1.alloc (.cells (zC (List.replicate Ls.length 0)).toArray 3))):=al (Below.refl _ _) _
 have Z2:Hid (RwZ (w1.alloc (.cells (zC (List.replicate Ls.length 0)).toArray 3)) w1.heap.size ([]++List.replicate (Ls.length-0) 0)):=RwZ.made w1 _
 clear d1 hmk
 generalize w1.alloc (.cells (zC (List.replicate Ls.length 0)).toArray 3)=w2 at *
 have d2:w2.cell? ⟨w.heap.size,1,none⟩=some (.slice (some ⟨lb,0,none⟩) Ls.length lc):=by rw[cell_of_row w2 _ _ _ _ _ ((X2.out.block _ SZ1.out).trans D1.out)];rfl
 go_wp2
 clear d2
 go_loopw [13] (fun x wr=>∃k:Nat,k≤Ls.length∧x=.int .i64 (k:Int)∧Hid (RwZ wr w1.heap.size ((Ls.take k).map (fun x=>szL S x.lv)++List.replicate (Ls.length-k) 0))∧Hid (Below w.heap.size w wr)) (fun x _=>Ls.length-(RowKit.intOf x).toNat)
 case atStart=>exact⟨0,Nat.zero_le _,rfl,Z2,hide (bt X1.out X2.out (Nat.le_refl _))⟩
 case round=>
  obtain⟨k,hk,rfl,ZK,XK⟩:=hrel
  clear Z2 X2
  by_cases hlt:k<Ls.length
  ·have hlt':(k:Int)<(Ls.length:Int):=by omega
   obtain⟨q0,q1⟩:=(HD.out.below (XK.out.mono hBw)).lay.at0 hlt
   have Y1:Hid (Below wr.heap.size wr (wr.alloc (.cells #[.int .i64 (Ls[k]).lv,.slice (some ⟨(Ls[k]).rb,0,none⟩) (Ls[k]).Rs.length (Ls[k]).rc] 105))):=al (Below.refl _ _) _
   have hrx:=(HD.out.below (XK.out.mono hBw)).lay.ly _ (List.getElem_mem hlt)
   obtain⟨T',hT'⟩:∃T',Wf S ((Ls[k]).lay::T'):=⟨_,by have:=Wf.tail (A:=(layL Ls).take k) (by rw[List.take_append_drop];exact HW.out);rw[layL_drop hlt] at this;exact this⟩
   have h2:2≤(Ls[k]).Rs.length:=by have:=hT'.1.two;simpa [LA.lay,rdR] using this
   have hr0:((Ls[k]).Rs[0]).r=[(szL S (Ls[k]).lv,0)]:=by
    have:=hT'.1.r0
    simp only[LA.lay,rdR,List.getElem?_map,List.getElem?_eq_getElem (show 0<(Ls[k]).Rs.length by omega),Option.map_some,Option.some.injEq] at this
    exact this
   have rr0:=hrx.cell (i:=0) (by omega)
   have rrb:=(hrx.row _ (List.getElem_mem (show 0<(Ls[k]).Rs.length by omega)))
   have rcl:=(rrb.1.cell (i:=0) rrb.2.1.1.pos).1
   have hr00:(((Ls[k]).Rs[0]).r[0]'rrb.2.1.1.pos).1=szL S (Ls[k]).lv:=by simp only[hr0,List.getElem_cons_zero]
   rw[hr00] at rcl
   have hl1:((Ls[k]).Rs[0]).r.length=1:=by rw[hr0];rfl
   rw[hl1] at rr0
   clear hr00 hl1 rrb hr0
   generalize ((Ls[k]).Rs[0]).b=yb at *
   generalize ((Ls[k]).Rs[0]).c=yc at *
   have RBL:Hid ((Ls[k]).rb<wr.heap.size∧yb<wr.heap.size):=⟨World.block_lt_of_cell? _ _ rr0,World.block_lt_of_cell? _ _ rcl⟩
   obtain⟨sv,hsv⟩:∃sv,szL S (Ls[k]).lv=sv:=⟨_,rfl⟩
   rw[hsv] at rcl
   have HSV:=hide hsv
   have h2':(0:Int)<((Ls[k]).Rs.length:Int):=by omega
   have h2'':0<(Ls[k]).Rs.length:=by omega
   clear hT' hrx hsv
   have p0:(wr.alloc (.cells #[.int .i64 (Ls[k]).lv,.slice (some ⟨(Ls[k]).rb,0,none⟩) (Ls[k]).Rs.length (Ls[k]).rc] 105)).cell? ⟨wr.heap.size,1,none⟩=some (.slice (some ⟨(Ls[k]).rb,0,none⟩) (Ls[k]).Rs.length (Ls[k]).rc):=by simp
   go_upto_region 5 with fail
   clear q0 q1
   have rr1:=(Y1.out.cell (p:=⟨(Ls[k]).rb,0,none⟩) RBL.out.1).trans rr0
   have rr2:=(Y1.out.cell (p:=⟨yb,0*2,none⟩) RBL.out.2).trans rcl
   rw[Nat.zero_mul] at rr2
   clear rr0 rcl
   have Z3:=hide (ZK.out.below Y1.out)
   have X3:=hide (bt XK.out Y1.out (Nat.le_refl _))
   generalize wr.alloc (.cells #[.int .i64 (Ls[k]).lv,.slice (some ⟨(Ls[k]).rb,0,none⟩) (Ls[k]).Rs.length (Ls[k]).rc] 105)=w3 at *
   obtain⟨v0,hv0⟩:∃v0,w3.cell? ⟨w1.heap.size,k,none⟩=some v0:=⟨_,Z3.out.cell (k:=k) (by simp;omega)⟩
   have f0:=Z3.out.fro k
   have Z4:=hide (Z3.out.next (x:=szL S (Ls[k]).lv) (by simp;omega) hlt)
   rw[HSV.out] at Z4
   have HT:Hid ((Ls.take (k+1)).map (fun x=>szL S x.lv)=(Ls.take k).map (fun x=>szL S x.lv)++[szL S (Ls[k]).lv]):=by unfold Hid;rw[List.take_succ_eq_append_getElem hlt,List.map_append];rfl
   have ew:IntKind.i64.wrap sv=sv:=by
    have h5:=(HW.out.ge (Ls[k]).lv (by simp only[layL,List.map_map];exact List.mem_map.2 ⟨Ls[k],List.getElem_mem hlt,rfl⟩))
    have h6:=HSZ.out.at h5.1 h5.2
    rw[HSV.out] at h6
    simp[IntKind.wrap,IntKind.bits,IntKind.signed];omega
   go_wp2
   go_roundw
   case rel=>exact⟨k+1,by omega,by go_num,by rw[HT.out,HSV.out];exact Z4,hide (X3.out.setCell (p:=⟨w1.heap.size,k,none⟩) (Nat.le_of_lt SZ1.out) _)⟩
   case measure=>simp[RowKit.intOf];omega
  ·have hlt':¬(k:Int)<(Ls.length:Int):=by omega
   obtain rfl:k=Ls.length:=by omega
   go_wp2
   go_ret
   have:=ZK.out
   rw[List.take_length,Nat.sub_self,List.replicate_zero,List.append_nil] at this
   exact⟨_,rfl,this,Nat.le_of_lt SZ1.out,XK.out⟩
end
end Go.Proofs.Ytnddhkhmbjeefaa

