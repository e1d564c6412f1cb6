/-
  What stands behind a test's word, by its contract: texts; all of it. No condition.
-/
import Derived.Test.YtlmhofjiobmodaaGreatDoorP09
import Derived.Test.YtlmhofjiobmodaaGreatDoorP07
set_option maxRecDepth 100000
set_option maxHeartbeats 16000000
namespace Go.Proofs.YtlmhofjiobmodaaGreatDoor
open Go.RowKit Go.Lib
theorem TcA.setN {w:World} {base cp:Nat} {c:CT} {v3 v4 v5:Value} (h:TcA w base cp c v3 v4 v5) (x:By):TcA (w.setCell ⟨cp,1,none⟩ (.string ⟨x.toArray⟩)) base cp (.mk c.k x c.tx c.pre c.sp c.ns c.kids c.p) v3 v4 v5:=by
 have K:Kept (fun k=>k=cp) w (w.setCell ⟨cp,1,none⟩ (.string ⟨x.toArray⟩)):=Kept.setCell (F:=fun k=>k=cp) (p:=⟨cp,1,none⟩) (Kept.refl _ _) rfl _;have ow:∀ {e:TypeId} {size n:Nat} {v:Value} {xs:List Value},w.ownsRow base e size v n xs→e≠60→(w.setCell ⟨cp,1,none⟩ (.string ⟨x.toArray⟩)).ownsRow base e size v n xs:=fun ho he=>qa6 ho K (fun k hk=>by have hk:k=cp:=hk;subst hk;exact⟨_,60,_,h.blk,fun e=>he e.symm⟩)
 refine⟨?_,ow h.o3 (by decide),ow h.o4 (by decide),ow h.o5 (by decide),h.kids,h.bas⟩;have:=qab h.blk 1 (.string ⟨x.toArray⟩);simpa [CT.k,CT.nm,CT.tx,CT.p] using this
theorem TcA.setT {w:World} {base cp:Nat} {c:CT} {v3 v4 v5:Value} (h:TcA w base cp c v3 v4 v5) (x:By):TcA (w.setCell ⟨cp,2,none⟩ (.string ⟨x.toArray⟩)) base cp (.mk c.k c.nm x c.pre c.sp c.ns c.kids c.p) v3 v4 v5:=by
 have K:Kept (fun k=>k=cp) w (w.setCell ⟨cp,2,none⟩ (.string ⟨x.toArray⟩)):=Kept.setCell (F:=fun k=>k=cp) (p:=⟨cp,2,none⟩) (Kept.refl _ _) rfl _;have ow:∀ {e:TypeId} {size n:Nat} {v:Value} {xs:List Value},w.ownsRow base e size v n xs→e≠60→(w.setCell ⟨cp,2,none⟩ (.string ⟨x.toArray⟩)).ownsRow base e size v n xs:=fun ho he=>qa6 ho K (fun k hk=>by have hk:k=cp:=hk;subst hk;exact⟨_,60,_,h.blk,fun e=>he e.symm⟩)
 refine⟨?_,ow h.o3 (by decide),ow h.o4 (by decide),ow h.o5 (by decide),h.kids,h.bas⟩;have:=qab h.blk 2 (.string ⟨x.toArray⟩);simpa [CT.k,CT.nm,CT.tx,CT.p] using this
theorem RdA.cp {w:World} {rbase rp g cap cp k:Nat} {Ts:List Tk} {i:Nat} {cs:Array Value} {f:Nat×Nat} (h:RdA w rbase rp g cap Ts i) (hc:w.heap[cp]? =some (.cells cs 60 f)) (v:Value):RdA (w.setCell ⟨cp,k,none⟩ v) rbase rp g cap Ts i:=by
 have K:Kept (fun j=>j=cp) w (w.setCell ⟨cp,k,none⟩ v):=Kept.setCell (F:=fun j=>j=cp) (p:=⟨cp,k,none⟩) (Kept.refl _ _) rfl _;refine h.kept K (fun e=>qar h.blk hc (by decide) e) (fun e=>?_);obtain⟨cs2,h7⟩:=qaw h.row g rfl;exact qar h7 hc (by decide) e
theorem LfK.setC {base rp cp k:Nat} {w:World} {cs:Array Value} {f:Nat×Nat} (hc:w.heap[cp]? =some (.cells cs 60 f)) (hb:base≤cp) (v:Value):LfK base rp w (w.setCell ⟨cp,k,none⟩ v):=
 LfK.of_cp hc hb (Kept.setCell (F:=fun j=>j=cp) (p:=⟨cp,k,none⟩) (Kept.refl _ _) rfl _)
theorem qcb {Ts:List Tk} {kind:Int} {i:Nat} (h:(tok Ts i).k=kind):qa9 Ts kind i=.ok (tok Ts i) (i+1):=by unfold qa9;rw[if_pos h]
theorem qcn {Ts:List Tk} {kind:Int} {i:Nat} (h:¬(tok Ts i).k=kind):qa9 Ts kind i=.bad 90 (tok Ts i).p:=by unfold qa9;rw[if_neg h]
theorem qc8 {Ts:List Tk} {kind:Int} {text:By} {i:Nat} (h:isT Ts kind text i=true):qak Ts kind text i=.ok () (i+1):=by unfold qak;rw[if_pos h]
theorem qco {Ts:List Tk} {kind:Int} {text:By} {i:Nat} (h:¬isT Ts kind text i=true):qak Ts kind text i=.bad 90 (tok Ts i).p:=by unfold qak;rw[if_neg h]
theorem qm4 {w:World} {base cp rbase rp g cap:Nat} {Ts:List Tk} {f i:Nat} {c:CT} {v3 v4 v5:Value} (hk:c.k=10) (hT:TcA w base cp c v3 v4 v5) (hR:RdA w rbase rp g cap Ts i):Calls Tryz.prog 145 #[.pointer (some ⟨rp,0,none⟩),.pointer (some ⟨cp,0,none⟩)] w (qa1 base cp rbase rp g cap Ts w (qa0 Ts f c i)):=by
 obtain⟨x,hx⟩:∃x,x=qa0 Ts f c i:=⟨_,rfl⟩;rw[←hx];have HX:Hid (x=(qak Ts 7 [126] i).bind fun _ j=>(qa9 Ts 6 j).bind fun t l=>.ok (.mk c.k c.nm t.t c.pre c.sp c.ns c.kids c.p) l):=by
  unfold Hid;rw[hx];unfold qa0;rw[if_neg (by rw[hk];decide),if_neg (by rw[hk];decide),if_neg (by rw[hk];decide),if_pos hk]
 clear hx;have XA:=qaa (show Below w.heap.size w (w.alloc (.cells #[.pointer (some ⟨rp,0,none⟩)] 102)) from al Yj _);obtain⟨W,hW⟩:∃W,W=(w.alloc (.cells #[.pointer (some ⟨rp,0,none⟩)] 102)).alloc (.cells #[.pointer (some ⟨cp,0,none⟩)] 177):=⟨_,rfl⟩;have XW:=qaa (show Below w.heap.size w W by rw[hW];exact al XA.out _);obtain⟨rv,BI⟩:∃rv,rv=w.heap.size:=⟨_,rfl⟩;obtain⟨vp,hvp⟩:∃vp,vp=(w.alloc (.cells #[.pointer (some ⟨rp,0,none⟩)] 102)).heap.size:=⟨_,rfl⟩;have HU:=qaa (show W.heap[rv]? =some (.cells #[.pointer (some ⟨rp,0,none⟩)] 102 (0,0)) by
  rw[hW,BI];exact(heap_alloc_old _ _ (by simp)).trans (Yh w _))
 have HV:=qaa (show W.heap[vp]? =some (.cells #[.pointer (some ⟨cp,0,none⟩)] 177 (0,0)) by
  rw[hW,hvp];exact Yh _ _)
 have Dt:vp=w.heap.size+1:=by rw[hvp];simp
 have NE:Hid (vp≠rp∧rv≠rp):=by
  have h1:=Yd hR.blk;exact⟨by omega,by omega⟩
 have R0:=qaa (hR.below XW.out);have L0:Hid (LfK base rp w W):=LfK.of_below XW.out;have T0:=qaa (hT.below XW.out);have HK:=qaa hk;clear hR hT XA hk;have c0:W.cell? ⟨vp,0,none⟩=some (.pointer (some ⟨cp,0,none⟩)):=by rw[Ye _ _ _ _ _ _ HV.out];rfl
 have c1:W.cell? ⟨cp,0,none⟩=some (.int .i64 10):=by rw[Ye _ _ _ _ _ _ T0.out.blk,←HK.out];rfl
 have c2:W.cell? ⟨rv,0,none⟩=some (.pointer (some ⟨rp,0,none⟩)):=by rw[Ye _ _ _ _ _ _ HU.out];rfl
 go_enter Tryz.func145,Tryz.ntmps145;go_upto_region 1 with fail
 rw[←Dt,←hW,←BI];clear hW BI hvp Dt XW;go_upto_region 9 with fail
 clear c0 c1 c2;have T:=qaa T0.out;have R:=qaa R0.out;have L:=qaa L0.out;have V:=qaa HV.out;have U:=qaa HU.out;clear T0 R0 L0 HV HU;have c2:W.cell? ⟨rv,0,none⟩=some (.pointer (some ⟨rp,0,none⟩)):=by rw[Ye _ _ _ _ _ _ U.out];rfl
 by_cases hs:isT Ts 7 [126] (i)=true
 ·have Bz:=qaa (qcu R.out hs)
  have Dh:Hid (x=(qa9 Ts 6 (i+1)).bind fun t l=>.ok (.mk c.k c.nm t.t c.pre c.sp c.ns c.kids c.p) l):=by
   unfold Hid;rw[HX.out,qc8 hs];rfl
  clear hs HX;go_upto_region 10 with(go_at_call 75;refine Bz.out.mono ?_;rintro e v1 ⟨rfl,r3,k3⟩;have R3:=qaa r3;have K3:=qaa k3;clear r3 k3)
  have LC:Hid (LfK base rp W v1):=LfK.of_rp K3.out;have T3:=qaa (T.out.rp K3.out R.out.blk);have L3:Hid (LfK base rp w v1):=L.out.trans LC.out;have V3:=qaa (LC.out.keep V.out NE.out.1 (by decide));have U3:=qaa (LC.out.keep U.out NE.out.2 (by decide));have HX:=qaa Dh.out;clear T R L V U K3 LC Bz Dh c2;have T:=qaa T3.out;have R:=qaa R3.out;have L:=qaa L3.out;have V:=qaa V3.out;have U:=qaa U3.out;clear T3 R3 L3 V3 U3;refine qam (S:=fun V=>V.cell? ⟨vp,0,none⟩=some (.pointer (some ⟨cp,0,none⟩))∧V.cell? ⟨rv,0,none⟩=some (.pointer (some ⟨rp,0,none⟩))) 6 (by kernel_rfl) ?_;have Bb:Hid (Below v1.heap.size v1 v1.drew):=Yj.drew;have T2:=qaa (T.out.below Bb.out);have V2:=qaa ((Bb.out.block vp (Yd V.out)).trans V.out);have U2:=qaa ((Bb.out.block rv (Yd U.out)).trans U.out);have R2:=qaa (R.out.below Bb.out);have L2:Hid (LfK base rp w v1.drew):=L.out.trans (LfK.of_below Bb.out);clear Bb T V U R L;generalize v1.drew=wd at *;have SF:Hid (∀Y:World,Y.heap[vp]? =some (.cells #[.pointer (some ⟨cp,0,none⟩)] 177 (0,0))→Y.heap[rv]? =some (.cells #[.pointer (some ⟨rp,0,none⟩)] 102 (0,0))→Y.cell? ⟨vp,0,none⟩=some (.pointer (some ⟨cp,0,none⟩))∧Y.cell? ⟨rv,0,none⟩=some (.pointer (some ⟨rp,0,none⟩))):=fun Y h1 h2=>⟨by rw[Ye _ _ _ _ _ _ h1];rfl,by rw[Ye _ _ _ _ _ _ h2];rfl⟩
  have S2:=qaa (SF.out wd V2.out U2.out);refine qac.tk 0 rfl 27 S2.out (fun a b=>by obtain⟨_,_⟩:=b;go_simp;first|done|rfl) ?_
  try simp only[Act.put,Ya,Yb,Yc]
  refine qac.tk 1 rfl 28 S2.out (fun a b=>by obtain⟨_,_⟩:=b;go_simp;first|done|rfl) ?_
  try simp only[Act.put,Ya,Yb,Yc]
  obtain⟨z,hz⟩:∃z,z=tok Ts (i+1):=⟨_,rfl⟩;have HZ:=qaa hz;by_cases Di:(tok Ts (i+1)).k=6
  ·have Bz:=qaa (qbk R2.out Di (by decide))
   have Dh:Hid (x=.ok (.mk c.k c.nm z.t c.pre c.sp c.ns c.kids c.p) (i+1+1)):=by
    unfold Hid;rw[HX.out,qcb Di,←hz];rfl
   unfold tkV at Bz;rw[←hz] at Bz;clear Di hz HX;refine qac.stq 2 rfl fun K hK=>?_
   go_simp;refine Bz.out.mono ?_;rintro e w3 ⟨rfl,r3,k3⟩;have R3:=qaa r3;have T3:=qaa (T2.out.rp k3 R2.out.blk);have L3:Hid (LfK base rp w w3):=L2.out.trans (LfK.of_rp k3);have LK:Hid (LfK base rp wd w3):=LfK.of_rp k3;have V3:=qaa (LK.out.keep V2.out NE.out.1 (by decide));have U3:=qaa (LK.out.keep U2.out NE.out.2 (by decide));have S3:=qaa (SF.out w3 V3.out U3.out);refine hK _ _ S3.out ?_;clear hK K r3 k3 R2 T2 L2 V2 U2 S2 LK Bz
   try simp only[Act.put,Ya,Yb,Yc]
   have hf:=qmh;refine qac.tk 3 rfl 30 S3.out (fun a b=>by obtain⟨_,_⟩:=b;go_simp;first|done|rfl) ?_
   try simp only[Act.put,Ya,Yb,Yc]
   refine qac.tk 4 rfl 31 S3.out (fun a b=>by obtain⟨_,_⟩:=b;go_simp;first|done|rfl) ?_
   try simp only[Act.put,Ya,Yb,Yc]
   refine qac.tk 5 rfl 32 S3.out (fun a b=>by obtain⟨_,_⟩:=b;go_simp;first|done|rfl) ?_
   try simp only[Act.put,Ya,Yb,Yc]
   clear hf;have c7:∃u,w3.cell? ⟨cp,2,none⟩=some u:=⟨_,by rw[Ye _ _ _ _ _ _ T3.out.blk];rfl⟩;obtain⟨u7,c7⟩:=c7;have f7:=Yf w3 cp 2 _ _ T3.out.blk;refine qac.lst rfl fun K hK=>?_
   go_simp;refine hK _ _ ?_;clear hK K c7 f7;have LC:Hid (LfK base rp w3 (w3.setCell ⟨cp,2,none⟩ (.string ⟨z.t.toArray⟩))):=LfK.setC T3.out.blk T3.out.bas _;have T:=qaa (T3.out.setT z.t);have R:=qaa (R3.out.cp (k:=2) T3.out.blk (.string ⟨z.t.toArray⟩));have L:Hid (LfK base rp w (w3.setCell ⟨cp,2,none⟩ (.string ⟨z.t.toArray⟩))):=L3.out.trans LC.out;have V:=qaa (LC.out.keep V3.out NE.out.1 (by decide));have U:=qaa (LC.out.keep U3.out NE.out.2 (by decide));clear T3 R3 L3 V3 U3 S3 LC;generalize (w3.setCell ⟨cp,2,none⟩ (.string ⟨z.t.toArray⟩))=v2 at *;go_wp2;go_end0;exact qa1.okI Dh.out rfl ⟨_,_,_,T.out⟩ R.out L.out
  ·have Bz:=qaa (qbr R2.out Di)
   have Dh:Hid (x=.bad 90 z.p):=by
    unfold Hid;rw[HX.out,qcn Di,←hz];rfl
   rw[←hz] at Bz;clear Di hz HX;refine qac.stq 2 rfl fun K hK=>?_
   go_simp;refine Bz.out.mono ?_;rintro e w3 ⟨he,x3⟩;unfold pan at he;subst he;exact⟨rfl,qa1.badI Dh.out rfl (L2.out.trans (LfK.of_below x3))⟩
 ·have Bz:=qaa (qce R.out hs)
  have Dh:Hid (x=.bad 90 (tok Ts (i)).p):=by
   unfold Hid;rw[HX.out,qco hs];rfl
  generalize (tok Ts (i)).p=zp at *;clear hs HX;go_wp2_with (go_at_call 75;refine Bz.out.mono ?_;rintro e w3 ⟨he,x3⟩;unfold pan at he;subst he;have X3:=qaa x3;clear x3);exact⟨rfl,qa1.badI Dh.out rfl (L.out.trans (LfK.of_below X3.out))⟩
theorem qi6 {w:World} {base cp rbase rp g cap:Nat} {Ts:List Tk} {f i:Nat} {c:CT} {v3 v4 v5:Value} (hk:c.k=11) (hT:TcA w base cp c v3 v4 v5) (hR:RdA w rbase rp g cap Ts i):Calls Tryz.prog 145 #[.pointer (some ⟨rp,0,none⟩),.pointer (some ⟨cp,0,none⟩)] w (qa1 base cp rbase rp g cap Ts w (qa0 Ts f c i)):=by
 obtain⟨x,hx⟩:∃x,x=qa0 Ts f c i:=⟨_,rfl⟩;rw[←hx];have HX:Hid (x=(qa9 Ts 6 i).bind fun u h=>(qak Ts 7 [126] h).bind fun _ j=>(qa9 Ts 6 j).bind fun t l=>.ok (.mk c.k u.t t.t c.pre c.sp c.ns c.kids c.p) l):=by
  unfold Hid;rw[hx];unfold qa0;rw[if_neg (by rw[hk];decide),if_neg (by rw[hk];decide),if_neg (by rw[hk];decide),if_neg (by rw[hk];decide),if_pos hk]
 clear hx;have XA:=qaa (show Below w.heap.size w (w.alloc (.cells #[.pointer (some ⟨rp,0,none⟩)] 102)) from al Yj _);obtain⟨W,hW⟩:∃W,W=(w.alloc (.cells #[.pointer (some ⟨rp,0,none⟩)] 102)).alloc (.cells #[.pointer (some ⟨cp,0,none⟩)] 177):=⟨_,rfl⟩;have XW:=qaa (show Below w.heap.size w W by rw[hW];exact al XA.out _);obtain⟨rv,BI⟩:∃rv,rv=w.heap.size:=⟨_,rfl⟩;obtain⟨vp,hvp⟩:∃vp,vp=(w.alloc (.cells #[.pointer (some ⟨rp,0,none⟩)] 102)).heap.size:=⟨_,rfl⟩;have HU:=qaa (show W.heap[rv]? =some (.cells #[.pointer (some ⟨rp,0,none⟩)] 102 (0,0)) by
  rw[hW,BI];exact(heap_alloc_old _ _ (by simp)).trans (Yh w _))
 have HV:=qaa (show W.heap[vp]? =some (.cells #[.pointer (some ⟨cp,0,none⟩)] 177 (0,0)) by
  rw[hW,hvp];exact Yh _ _)
 have Dt:vp=w.heap.size+1:=by rw[hvp];simp
 have NE:Hid (vp≠rp∧rv≠rp):=by
  have h1:=Yd hR.blk;exact⟨by omega,by omega⟩
 have R0:=qaa (hR.below XW.out);have L0:Hid (LfK base rp w W):=LfK.of_below XW.out;have T0:=qaa (hT.below XW.out);have HK:=qaa hk;clear hR hT XA hk;have c0:W.cell? ⟨vp,0,none⟩=some (.pointer (some ⟨cp,0,none⟩)):=by rw[Ye _ _ _ _ _ _ HV.out];rfl
 have c1:W.cell? ⟨cp,0,none⟩=some (.int .i64 11):=by rw[Ye _ _ _ _ _ _ T0.out.blk,←HK.out];rfl
 have c2:W.cell? ⟨rv,0,none⟩=some (.pointer (some ⟨rp,0,none⟩)):=by rw[Ye _ _ _ _ _ _ HU.out];rfl
 go_enter Tryz.func145,Tryz.ntmps145;go_upto_region 1 with fail
 rw[←Dt,←hW,←BI];clear hW BI hvp Dt XW;go_upto_region 12 with fail
 clear c0 c1 c2;have T:=qaa T0.out;have R:=qaa R0.out;have L:=qaa L0.out;have V:=qaa HV.out;have U:=qaa HU.out;clear T0 R0 L0 HV HU;refine qam (S:=fun V=>V.cell? ⟨vp,0,none⟩=some (.pointer (some ⟨cp,0,none⟩))∧V.cell? ⟨rv,0,none⟩=some (.pointer (some ⟨rp,0,none⟩))) 6 (by kernel_rfl) ?_;have Bb:Hid (Below W.heap.size W W.drew):=Yj.drew;have T2:=qaa (T.out.below Bb.out);have V2:=qaa ((Bb.out.block vp (Yd V.out)).trans V.out);have U2:=qaa ((Bb.out.block rv (Yd U.out)).trans U.out);have R2:=qaa (R.out.below Bb.out);have L2:Hid (LfK base rp w W.drew):=L.out.trans (LfK.of_below Bb.out);clear Bb T V U R L;generalize W.drew=wd at *;have SF:Hid (∀Y:World,Y.heap[vp]? =some (.cells #[.pointer (some ⟨cp,0,none⟩)] 177 (0,0))→Y.heap[rv]? =some (.cells #[.pointer (some ⟨rp,0,none⟩)] 102 (0,0))→Y.cell? ⟨vp,0,none⟩=some (.pointer (some ⟨cp,0,none⟩))∧Y.cell? ⟨rv,0,none⟩=some (.pointer (some ⟨rp,0,none⟩))):=fun Y h1 h2=>⟨by rw[Ye _ _ _ _ _ _ h1];rfl,by rw[Ye _ _ _ _ _ _ h2];rfl⟩
 have S2:=qaa (SF.out wd V2.out U2.out);refine qac.tk 0 rfl 35 S2.out (fun a b=>by obtain⟨_,_⟩:=b;go_simp;first|done|rfl) ?_
 try simp only[Act.put,Ya,Yb,Yc]
 refine qac.tk 1 rfl 36 S2.out (fun a b=>by obtain⟨_,_⟩:=b;go_simp;first|done|rfl) ?_
 try simp only[Act.put,Ya,Yb,Yc]
 obtain⟨z,hz⟩:∃z,z=tok Ts (i):=⟨_,rfl⟩;have HZ:=qaa hz;by_cases Di:(tok Ts (i)).k=6
 ·have Bz:=qaa (qbk R2.out Di (by decide))
  have Dh:Hid (x=(qak Ts 7 [126] (i+1)).bind fun _ j=>(qa9 Ts 6 j).bind fun t l=>.ok (.mk c.k z.t t.t c.pre c.sp c.ns c.kids c.p) l):=by
   unfold Hid;rw[HX.out,qcb Di,←hz];rfl
  unfold tkV at Bz;rw[←hz] at Bz;clear Di hz HX;refine qac.stq 2 rfl fun K hK=>?_
  go_simp;refine Bz.out.mono ?_;rintro e w3 ⟨rfl,r3,k3⟩;have R3:=qaa r3;have T3:=qaa (T2.out.rp k3 R2.out.blk);have L3:Hid (LfK base rp w w3):=L2.out.trans (LfK.of_rp k3);have LK:Hid (LfK base rp wd w3):=LfK.of_rp k3;have V3:=qaa (LK.out.keep V2.out NE.out.1 (by decide));have U3:=qaa (LK.out.keep U2.out NE.out.2 (by decide));have S3:=qaa (SF.out w3 V3.out U3.out);refine hK _ _ S3.out ?_;clear hK K r3 k3 R2 T2 L2 V2 U2 S2 LK Bz
  try simp only[Act.put,Ya,Yb,Yc]
  have hf:=qmh;refine qac.tk 3 rfl 38 S3.out (fun a b=>by obtain⟨_,_⟩:=b;go_simp;first|done|rfl) ?_
  try simp only[Act.put,Ya,Yb,Yc]
  refine qac.tk 4 rfl 39 S3.out (fun a b=>by obtain⟨_,_⟩:=b;go_simp;first|done|rfl) ?_
  try simp only[Act.put,Ya,Yb,Yc]
  refine qac.tk 5 rfl 40 S3.out (fun a b=>by obtain⟨_,_⟩:=b;go_simp;first|done|rfl) ?_
  try simp only[Act.put,Ya,Yb,Yc]
  clear hf;have c7:∃u,w3.cell? ⟨cp,1,none⟩=some u:=⟨_,by rw[Ye _ _ _ _ _ _ T3.out.blk];rfl⟩;obtain⟨u7,c7⟩:=c7;have f7:=Yf w3 cp 1 _ _ T3.out.blk;refine qac.lst rfl fun K hK=>?_
  go_simp;refine hK _ _ ?_;clear hK K c7 f7;have LC:Hid (LfK base rp w3 (w3.setCell ⟨cp,1,none⟩ (.string ⟨z.t.toArray⟩))):=LfK.setC T3.out.blk T3.out.bas _;have T:=qaa (T3.out.setN z.t);have R:=qaa (R3.out.cp (k:=1) T3.out.blk (.string ⟨z.t.toArray⟩));have L:Hid (LfK base rp w (w3.setCell ⟨cp,1,none⟩ (.string ⟨z.t.toArray⟩))):=L3.out.trans LC.out;have V:=qaa (LC.out.keep V3.out NE.out.1 (by decide));have U:=qaa (LC.out.keep U3.out NE.out.2 (by decide));clear T3 R3 L3 V3 U3 S3 LC;generalize (w3.setCell ⟨cp,1,none⟩ (.string ⟨z.t.toArray⟩))=v4 at *;have HX:=qaa Dh.out;obtain⟨z1,hz1⟩:∃z1,z1=z.t:=⟨_,rfl⟩;rw[←hz1] at HX T;clear Dh HZ hz1;go_upto_region 13 with fail
  have c2:v4.cell? ⟨rv,0,none⟩=some (.pointer (some ⟨rp,0,none⟩)):=by rw[Ye _ _ _ _ _ _ U.out];rfl
  by_cases hs:isT Ts 7 [126] (i+1)=true
  ·have Bz:=qaa (qcu R.out hs)
   have Dh:Hid (x=(qa9 Ts 6 (i+1+1)).bind fun t l=>.ok (.mk c.k z1 t.t c.pre c.sp c.ns c.kids c.p) l):=by
    unfold Hid;rw[HX.out,qc8 hs];rfl
   clear hs HX;go_upto_region 14 with(go_at_call 75;refine Bz.out.mono ?_;rintro e v5 ⟨rfl,r3,k3⟩;have R3:=qaa r3;have K3:=qaa k3;clear r3 k3)
   have LC:Hid (LfK base rp v4 v5):=LfK.of_rp K3.out;have T3:=qaa (T.out.rp K3.out R.out.blk);have L3:Hid (LfK base rp w v5):=L.out.trans LC.out;have V3:=qaa (LC.out.keep V.out NE.out.1 (by decide));have U3:=qaa (LC.out.keep U.out NE.out.2 (by decide));have HX:=qaa Dh.out;clear T R L V U K3 LC Bz Dh c2;have T:=qaa T3.out;have R:=qaa R3.out;have L:=qaa L3.out;have V:=qaa V3.out;have U:=qaa U3.out;clear T3 R3 L3 V3 U3;refine qam (S:=fun V=>V.cell? ⟨vp,0,none⟩=some (.pointer (some ⟨cp,0,none⟩))∧V.cell? ⟨rv,0,none⟩=some (.pointer (some ⟨rp,0,none⟩))) 6 (by kernel_rfl) ?_;have Bb:Hid (Below v5.heap.size v5 v5.drew):=Yj.drew;have T2:=qaa (T.out.below Bb.out);have V2:=qaa ((Bb.out.block vp (Yd V.out)).trans V.out);have U2:=qaa ((Bb.out.block rv (Yd U.out)).trans U.out);have R2:=qaa (R.out.below Bb.out);have L2:Hid (LfK base rp w v5.drew):=L.out.trans (LfK.of_below Bb.out);clear Bb T V U R L;generalize v5.drew=wd at *;have SF:Hid (∀Y:World,Y.heap[vp]? =some (.cells #[.pointer (some ⟨cp,0,none⟩)] 177 (0,0))→Y.heap[rv]? =some (.cells #[.pointer (some ⟨rp,0,none⟩)] 102 (0,0))→Y.cell? ⟨vp,0,none⟩=some (.pointer (some ⟨cp,0,none⟩))∧Y.cell? ⟨rv,0,none⟩=some (.pointer (some ⟨rp,0,none⟩))):=fun Y h1 h2=>⟨by rw[Ye _ _ _ _ _ _ h1];rfl,by rw[Ye _ _ _ _ _ _ h2];rfl⟩
   have S2:=qaa (SF.out wd V2.out U2.out);refine qac.tk 0 rfl 43 S2.out (fun a b=>by obtain⟨_,_⟩:=b;go_simp;first|done|rfl) ?_
   try simp only[Act.put,Ya,Yb,Yc]
   refine qac.tk 1 rfl 44 S2.out (fun a b=>by obtain⟨_,_⟩:=b;go_simp;first|done|rfl) ?_
   try simp only[Act.put,Ya,Yb,Yc]
   obtain⟨z,hz⟩:∃z,z=tok Ts (i+1+1):=⟨_,rfl⟩;have HZ:=qaa hz;by_cases Di:(tok Ts (i+1+1)).k=6
   ·have Bz:=qaa (qbk R2.out Di (by decide))
    have Dh:Hid (x=.ok (.mk c.k z1 z.t c.pre c.sp c.ns c.kids c.p) (i+1+1+1)):=by
     unfold Hid;rw[HX.out,qcb Di,←hz];rfl
    unfold tkV at Bz;rw[←hz] at Bz;clear Di hz HX;refine qac.stq 2 rfl fun K hK=>?_
    go_simp;refine Bz.out.mono ?_;rintro e w3 ⟨rfl,r3,k3⟩;have R3:=qaa r3;have T3:=qaa (T2.out.rp k3 R2.out.blk);have L3:Hid (LfK base rp w w3):=L2.out.trans (LfK.of_rp k3);have LK:Hid (LfK base rp wd w3):=LfK.of_rp k3;have V3:=qaa (LK.out.keep V2.out NE.out.1 (by decide));have U3:=qaa (LK.out.keep U2.out NE.out.2 (by decide));have S3:=qaa (SF.out w3 V3.out U3.out);refine hK _ _ S3.out ?_;clear hK K r3 k3 R2 T2 L2 V2 U2 S2 LK Bz
    try simp only[Act.put,Ya,Yb,Yc]
    have hf:=qmh;refine qac.tk 3 rfl 46 S3.out (fun a b=>by obtain⟨_,_⟩:=b;go_simp;first|done|rfl) ?_
    try simp only[Act.put,Ya,Yb,Yc]
    refine qac.tk 4 rfl 47 S3.out (fun a b=>by obtain⟨_,_⟩:=b;go_simp;first|done|rfl) ?_
    try simp only[Act.put,Ya,Yb,Yc]
    refine qac.tk 5 rfl 48 S3.out (fun a b=>by obtain⟨_,_⟩:=b;go_simp;first|done|rfl) ?_
    try simp only[Act.put,Ya,Yb,Yc]
    clear hf;have c7:∃u,w3.cell? ⟨cp,2,none⟩=some u:=⟨_,by rw[Ye _ _ _ _ _ _ T3.out.blk];rfl⟩;obtain⟨u7,c7⟩:=c7;have f7:=Yf w3 cp 2 _ _ T3.out.blk;refine qac.lst rfl fun K hK=>?_
    go_simp;refine hK _ _ ?_;clear hK K c7 f7;have LC:Hid (LfK base rp w3 (w3.setCell ⟨cp,2,none⟩ (.string ⟨z.t.toArray⟩))):=LfK.setC T3.out.blk T3.out.bas _;have T:=qaa (T3.out.setT z.t);have R:=qaa (R3.out.cp (k:=2) T3.out.blk (.string ⟨z.t.toArray⟩));have L:Hid (LfK base rp w (w3.setCell ⟨cp,2,none⟩ (.string ⟨z.t.toArray⟩))):=L3.out.trans LC.out;have V:=qaa (LC.out.keep V3.out NE.out.1 (by decide));have U:=qaa (LC.out.keep U3.out NE.out.2 (by decide));clear T3 R3 L3 V3 U3 S3 LC;generalize (w3.setCell ⟨cp,2,none⟩ (.string ⟨z.t.toArray⟩))=v6 at *;go_wp2;go_end0;exact qa1.okI Dh.out rfl ⟨_,_,_,T.out⟩ R.out L.out
   ·have Bz:=qaa (qbr R2.out Di)
    have Dh:Hid (x=.bad 90 z.p):=by
     unfold Hid;rw[HX.out,qcn Di,←hz];rfl
    rw[←hz] at Bz;clear Di hz HX;refine qac.stq 2 rfl fun K hK=>?_
    go_simp;refine Bz.out.mono ?_;rintro e w3 ⟨he,x3⟩;unfold pan at he;subst he;exact⟨rfl,qa1.badI Dh.out rfl (L2.out.trans (LfK.of_below x3))⟩
  ·have Bz:=qaa (qce R.out hs)
   have Dh:Hid (x=.bad 90 (tok Ts (i+1)).p):=by
    unfold Hid;rw[HX.out,qco hs];rfl
   generalize (tok Ts (i+1)).p=zp at *;clear hs HX;go_wp2_with (go_at_call 75;refine Bz.out.mono ?_;rintro e w3 ⟨he,x3⟩;unfold pan at he;subst he;have X3:=qaa x3;clear x3);exact⟨rfl,qa1.badI Dh.out rfl (L.out.trans (LfK.of_below X3.out))⟩
 ·have Bz:=qaa (qbr R2.out Di)
  have Dh:Hid (x=.bad 90 z.p):=by
   unfold Hid;rw[HX.out,qcn Di,←hz];rfl
  rw[←hz] at Bz;clear Di hz HX;refine qac.stq 2 rfl fun K hK=>?_
  go_simp;refine Bz.out.mono ?_;rintro e w3 ⟨he,x3⟩;unfold pan at he;subst he;exact⟨rfl,qa1.badI Dh.out rfl (L2.out.trans (LfK.of_below x3))⟩
theorem qpa {w:World} {base cp rbase rp g cap:Nat} {Ts:List Tk} {f i:Nat} {c:CT} {v3 v4 v5:Value} (hk:c.k=12) (hT:TcA w base cp c v3 v4 v5) (hR:RdA w rbase rp g cap Ts i):Calls Tryz.prog 145 #[.pointer (some ⟨rp,0,none⟩),.pointer (some ⟨cp,0,none⟩)] w (qa1 base cp rbase rp g cap Ts w (qa0 Ts f c i)):=by
 obtain⟨x,hx⟩:∃x,x=qa0 Ts f c i:=⟨_,rfl⟩;rw[←hx];have HX:Hid (x=(qa9 Ts 6 i).bind fun u h=>.ok (.mk c.k u.t c.tx c.pre c.sp c.ns c.kids c.p) h):=by
  unfold Hid;rw[hx];unfold qa0;rw[if_neg (by rw[hk];decide),if_neg (by rw[hk];decide),if_neg (by rw[hk];decide),if_neg (by rw[hk];decide),if_neg (by rw[hk];decide),if_pos hk]
 clear hx;have XA:=qaa (show Below w.heap.size w (w.alloc (.cells #[.pointer (some ⟨rp,0,none⟩)] 102)) from al Yj _);obtain⟨W,hW⟩:∃W,W=(w.alloc (.cells #[.pointer (some ⟨rp,0,none⟩)] 102)).alloc (.cells #[.pointer (some ⟨cp,0,none⟩)] 177):=⟨_,rfl⟩;have XW:=qaa (show Below w.heap.size w W by rw[hW];exact al XA.out _);obtain⟨rv,BI⟩:∃rv,rv=w.heap.size:=⟨_,rfl⟩;obtain⟨vp,hvp⟩:∃vp,vp=(w.alloc (.cells #[.pointer (some ⟨rp,0,none⟩)] 102)).heap.size:=⟨_,rfl⟩;have HU:=qaa (show W.heap[rv]? =some (.cells #[.pointer (some ⟨rp,0,none⟩)] 102 (0,0)) by
  rw[hW,BI];exact(heap_alloc_old _ _ (by simp)).trans (Yh w _))
 have HV:=qaa (show W.heap[vp]? =some (.cells #[.pointer (some ⟨cp,0,none⟩)] 177 (0,0)) by
  rw[hW,hvp];exact Yh _ _)
 have Dt:vp=w.heap.size+1:=by rw[hvp];simp
 have NE:Hid (vp≠rp∧rv≠rp):=by
  have h1:=Yd hR.blk;exact⟨by omega,by omega⟩
 have R0:=qaa (hR.below XW.out);have L0:Hid (LfK base rp w W):=LfK.of_below XW.out;have T0:=qaa (hT.below XW.out);have HK:=qaa hk;clear hR hT XA hk;have c0:W.cell? ⟨vp,0,none⟩=some (.pointer (some ⟨cp,0,none⟩)):=by rw[Ye _ _ _ _ _ _ HV.out];rfl
 have c1:W.cell? ⟨cp,0,none⟩=some (.int .i64 12):=by rw[Ye _ _ _ _ _ _ T0.out.blk,←HK.out];rfl
 have c2:W.cell? ⟨rv,0,none⟩=some (.pointer (some ⟨rp,0,none⟩)):=by rw[Ye _ _ _ _ _ _ HU.out];rfl
 go_enter Tryz.func145,Tryz.ntmps145;go_upto_region 1 with fail
 rw[←Dt,←hW,←BI];clear hW BI hvp Dt XW;go_upto_region 16 with fail
 clear c0 c1 c2;have T:=qaa T0.out;have R:=qaa R0.out;have L:=qaa L0.out;have V:=qaa HV.out;have U:=qaa HU.out;clear T0 R0 L0 HV HU;refine qam (S:=fun V=>V.cell? ⟨vp,0,none⟩=some (.pointer (some ⟨cp,0,none⟩))∧V.cell? ⟨rv,0,none⟩=some (.pointer (some ⟨rp,0,none⟩))) 6 (by kernel_rfl) ?_;have Bb:Hid (Below W.heap.size W W.drew):=Yj.drew;have T2:=qaa (T.out.below Bb.out);have V2:=qaa ((Bb.out.block vp (Yd V.out)).trans V.out);have U2:=qaa ((Bb.out.block rv (Yd U.out)).trans U.out);have R2:=qaa (R.out.below Bb.out);have L2:Hid (LfK base rp w W.drew):=L.out.trans (LfK.of_below Bb.out);clear Bb T V U R L;generalize W.drew=wd at *;have SF:Hid (∀Y:World,Y.heap[vp]? =some (.cells #[.pointer (some ⟨cp,0,none⟩)] 177 (0,0))→Y.heap[rv]? =some (.cells #[.pointer (some ⟨rp,0,none⟩)] 102 (0,0))→Y.cell? ⟨vp,0,none⟩=some (.pointer (some ⟨cp,0,none⟩))∧Y.cell? ⟨rv,0,none⟩=some (.pointer (some ⟨rp,0,none⟩))):=fun Y h1 h2=>⟨by rw[Ye _ _ _ _ _ _ h1];rfl,by rw[Ye _ _ _ _ _ _ h2];rfl⟩
 have S2:=qaa (SF.out wd V2.out U2.out);refine qac.tk 0 rfl 51 S2.out (fun a b=>by obtain⟨_,_⟩:=b;go_simp;first|done|rfl) ?_
 try simp only[Act.put,Ya,Yb,Yc]
 refine qac.tk 1 rfl 52 S2.out (fun a b=>by obtain⟨_,_⟩:=b;go_simp;first|done|rfl) ?_
 try simp only[Act.put,Ya,Yb,Yc]
 obtain⟨z,hz⟩:∃z,z=tok Ts (i):=⟨_,rfl⟩;have HZ:=qaa hz;by_cases Di:(tok Ts (i)).k=6
 ·have Bz:=qaa (qbk R2.out Di (by decide))
  have Dh:Hid (x=.ok (.mk c.k z.t c.tx c.pre c.sp c.ns c.kids c.p) (i+1)):=by
   unfold Hid;rw[HX.out,qcb Di,←hz];rfl
  unfold tkV at Bz;rw[←hz] at Bz;clear Di hz HX;refine qac.stq 2 rfl fun K hK=>?_
  go_simp;refine Bz.out.mono ?_;rintro e w3 ⟨rfl,r3,k3⟩;have R3:=qaa r3;have T3:=qaa (T2.out.rp k3 R2.out.blk);have L3:Hid (LfK base rp w w3):=L2.out.trans (LfK.of_rp k3);have LK:Hid (LfK base rp wd w3):=LfK.of_rp k3;have V3:=qaa (LK.out.keep V2.out NE.out.1 (by decide));have U3:=qaa (LK.out.keep U2.out NE.out.2 (by decide));have S3:=qaa (SF.out w3 V3.out U3.out);refine hK _ _ S3.out ?_;clear hK K r3 k3 R2 T2 L2 V2 U2 S2 LK Bz
  try simp only[Act.put,Ya,Yb,Yc]
  have hf:=qmh;refine qac.tk 3 rfl 54 S3.out (fun a b=>by obtain⟨_,_⟩:=b;go_simp;first|done|rfl) ?_
  try simp only[Act.put,Ya,Yb,Yc]
  refine qac.tk 4 rfl 55 S3.out (fun a b=>by obtain⟨_,_⟩:=b;go_simp;first|done|rfl) ?_
  try simp only[Act.put,Ya,Yb,Yc]
  refine qac.tk 5 rfl 56 S3.out (fun a b=>by obtain⟨_,_⟩:=b;go_simp;first|done|rfl) ?_
  try simp only[Act.put,Ya,Yb,Yc]
  clear hf;have c7:∃u,w3.cell? ⟨cp,1,none⟩=some u:=⟨_,by rw[Ye _ _ _ _ _ _ T3.out.blk];rfl⟩;obtain⟨u7,c7⟩:=c7;have f7:=Yf w3 cp 1 _ _ T3.out.blk;refine qac.lst rfl fun K hK=>?_
  go_simp;refine hK _ _ ?_;clear hK K c7 f7;have LC:Hid (LfK base rp w3 (w3.setCell ⟨cp,1,none⟩ (.string ⟨z.t.toArray⟩))):=LfK.setC T3.out.blk T3.out.bas _;have T:=qaa (T3.out.setN z.t);have R:=qaa (R3.out.cp (k:=1) T3.out.blk (.string ⟨z.t.toArray⟩));have L:Hid (LfK base rp w (w3.setCell ⟨cp,1,none⟩ (.string ⟨z.t.toArray⟩))):=L3.out.trans LC.out;have V:=qaa (LC.out.keep V3.out NE.out.1 (by decide));have U:=qaa (LC.out.keep U3.out NE.out.2 (by decide));clear T3 R3 L3 V3 U3 S3 LC;generalize (w3.setCell ⟨cp,1,none⟩ (.string ⟨z.t.toArray⟩))=v7 at *;go_wp2;go_end0;exact qa1.okI Dh.out rfl ⟨_,_,_,T.out⟩ R.out L.out
 ·have Bz:=qaa (qbr R2.out Di)
  have Dh:Hid (x=.bad 90 z.p):=by
   unfold Hid;rw[HX.out,qcn Di,←hz];rfl
  rw[←hz] at Bz;clear Di hz HX;refine qac.stq 2 rfl fun K hK=>?_
  go_simp;refine Bz.out.mono ?_;rintro e w3 ⟨he,x3⟩;unfold pan at he;subst he;exact⟨rfl,qa1.badI Dh.out rfl (L2.out.trans (LfK.of_below x3))⟩
theorem qm5 {w:World} {base cp rbase rp g cap:Nat} {Ts:List Tk} {f i:Nat} {c:CT} {v3 v4 v5:Value} (hk:c.k=1) (hT:TcA w base cp c v3 v4 v5) (hR:RdA w rbase rp g cap Ts i):Calls Tryz.prog 145 #[.pointer (some ⟨rp,0,none⟩),.pointer (some ⟨cp,0,none⟩)] w (qa1 base cp rbase rp g cap Ts w (qa0 Ts f c i)):=by
 obtain⟨x,hx⟩:∃x,x=qa0 Ts f c i:=⟨_,rfl⟩;rw[←hx];have HX:Hid (x=.ok c i):=by
  unfold Hid;rw[hx];unfold qa0;rw[if_neg (by rw[hk];decide),if_neg (by rw[hk];decide),if_neg (by rw[hk];decide),if_neg (by rw[hk];decide),if_neg (by rw[hk];decide),if_neg (by rw[hk];decide)]
 clear hx;have XA:=qaa (show Below w.heap.size w (w.alloc (.cells #[.pointer (some ⟨rp,0,none⟩)] 102)) from al Yj _);obtain⟨W,hW⟩:∃W,W=(w.alloc (.cells #[.pointer (some ⟨rp,0,none⟩)] 102)).alloc (.cells #[.pointer (some ⟨cp,0,none⟩)] 177):=⟨_,rfl⟩;have XW:=qaa (show Below w.heap.size w W by rw[hW];exact al XA.out _);obtain⟨rv,BI⟩:∃rv,rv=w.heap.size:=⟨_,rfl⟩;obtain⟨vp,hvp⟩:∃vp,vp=(w.alloc (.cells #[.pointer (some ⟨rp,0,none⟩)] 102)).heap.size:=⟨_,rfl⟩;have HU:=qaa (show W.heap[rv]? =some (.cells #[.pointer (some ⟨rp,0,none⟩)] 102 (0,0)) by
  rw[hW,BI];exact(heap_alloc_old _ _ (by simp)).trans (Yh w _))
 have HV:=qaa (show W.heap[vp]? =some (.cells #[.pointer (some ⟨cp,0,none⟩)] 177 (0,0)) by
  rw[hW,hvp];exact Yh _ _)
 have Dt:vp=w.heap.size+1:=by rw[hvp];simp
 have NE:Hid (vp≠rp∧rv≠rp):=by
  have h1:=Yd hR.blk;exact⟨by omega,by omega⟩
 have R0:=qaa (hR.below XW.out);have L0:Hid (LfK base rp w W):=LfK.of_below XW.out;have T0:=qaa (hT.below XW.out);have HK:=qaa hk;clear hR hT XA hk;have c0:W.cell? ⟨vp,0,none⟩=some (.pointer (some ⟨cp,0,none⟩)):=by rw[Ye _ _ _ _ _ _ HV.out];rfl
 have c1:W.cell? ⟨cp,0,none⟩=some (.int .i64 1):=by rw[Ye _ _ _ _ _ _ T0.out.blk,←HK.out];rfl
 have c2:W.cell? ⟨rv,0,none⟩=some (.pointer (some ⟨rp,0,none⟩)):=by rw[Ye _ _ _ _ _ _ HU.out];rfl
 go_enter Tryz.func145,Tryz.ntmps145;go_upto_region 1 with fail
 rw[←Dt,←hW,←BI];clear hW BI hvp Dt XW;go_wp2;go_end0;exact qa1.okI HX.out rfl ⟨_,_,_,T0.out⟩ R0.out L0.out
theorem qlc {w:World} {base cp rbase rp g cap:Nat} {Ts:List Tk} {f i:Nat} {c:CT} {v3 v4 v5:Value} (hk:c.k=2) (hT:TcA w base cp c v3 v4 v5) (hR:RdA w rbase rp g cap Ts i):Calls Tryz.prog 145 #[.pointer (some ⟨rp,0,none⟩),.pointer (some ⟨cp,0,none⟩)] w (qa1 base cp rbase rp g cap Ts w (qa0 Ts f c i)):=by
 obtain⟨x,hx⟩:∃x,x=qa0 Ts f c i:=⟨_,rfl⟩;rw[←hx];have HX:Hid (x=.ok c i):=by
  unfold Hid;rw[hx];unfold qa0;rw[if_neg (by rw[hk];decide),if_neg (by rw[hk];decide),if_neg (by rw[hk];decide),if_neg (by rw[hk];decide),if_neg (by rw[hk];decide),if_neg (by rw[hk];decide)]
 clear hx;have XA:=qaa (show Below w.heap.size w (w.alloc (.cells #[.pointer (some ⟨rp,0,none⟩)] 102)) from al Yj _);obtain⟨W,hW⟩:∃W,W=(w.alloc (.cells #[.pointer (some ⟨rp,0,none⟩)] 102)).alloc (.cells #[.pointer (some ⟨cp,0,none⟩)] 177):=⟨_,rfl⟩;have XW:=qaa (show Below w.heap.size w W by rw[hW];exact al XA.out _);obtain⟨rv,BI⟩:∃rv,rv=w.heap.size:=⟨_,rfl⟩;obtain⟨vp,hvp⟩:∃vp,vp=(w.alloc (.cells #[.pointer (some ⟨rp,0,none⟩)] 102)).heap.size:=⟨_,rfl⟩;have HU:=qaa (show W.heap[rv]? =some (.cells #[.pointer (some ⟨rp,0,none⟩)] 102 (0,0)) by
  rw[hW,BI];exact(heap_alloc_old _ _ (by simp)).trans (Yh w _))
 have HV:=qaa (show W.heap[vp]? =some (.cells #[.pointer (some ⟨cp,0,none⟩)] 177 (0,0)) by
  rw[hW,hvp];exact Yh _ _)
 have Dt:vp=w.heap.size+1:=by rw[hvp];simp
 have NE:Hid (vp≠rp∧rv≠rp):=by
  have h1:=Yd hR.blk;exact⟨by omega,by omega⟩
 have R0:=qaa (hR.below XW.out);have L0:Hid (LfK base rp w W):=LfK.of_below XW.out;have T0:=qaa (hT.below XW.out);have HK:=qaa hk;clear hR hT XA hk;have c0:W.cell? ⟨vp,0,none⟩=some (.pointer (some ⟨cp,0,none⟩)):=by rw[Ye _ _ _ _ _ _ HV.out];rfl
 have c1:W.cell? ⟨cp,0,none⟩=some (.int .i64 2):=by rw[Ye _ _ _ _ _ _ T0.out.blk,←HK.out];rfl
 have c2:W.cell? ⟨rv,0,none⟩=some (.pointer (some ⟨rp,0,none⟩)):=by rw[Ye _ _ _ _ _ _ HU.out];rfl
 go_enter Tryz.func145,Tryz.ntmps145;go_upto_region 1 with fail
 rw[←Dt,←hW,←BI];clear hW BI hvp Dt XW;go_wp2;go_end0;exact qa1.okI HX.out rfl ⟨_,_,_,T0.out⟩ R0.out L0.out
theorem qpb {w:World} {base cp rbase rp g cap:Nat} {Ts:List Tk} {f i:Nat} {c:CT} {v3 v4 v5:Value} (hk:c.k=1∨c.k=2∨c.k=7∨c.k=8∨c.k=9∨c.k=10∨c.k=11∨c.k=12) (hT:TcA w base cp c v3 v4 v5) (hR:RdA w rbase rp g cap Ts i) (h0:szC c=0) (hne:qa0 Ts f c i≠.out):Calls Tryz.prog 145 #[.pointer (some ⟨rp,0,none⟩),.pointer (some ⟨cp,0,none⟩)] w (qa1 base cp rbase rp g cap Ts w (qa0 Ts f c i)):=by
 rcases hk with hk|hk|hk|hk|hk|hk|hk|hk
 ·exact qm5 hk hT hR
 ·exact qlc hk hT hR
 ·exact qm2 hk hT hR h0 hne
 ·exact qm3 hk hT hR h0 hne
 ·exact qi5 hk hT hR h0 hne
 ·exact qm4 hk hT hR
 ·exact qi6 hk hT hR
 ·exact qpa hk hT hR
abbrev bk (v:Value):List Nat:=blk v
def qa7 (rbase rp g cap:Nat) (Ts:List Tk) (w:World) (x:PR CT) (e:Ending) (w':World):Prop:=match x with
 |.ok c j=>(∃vs bs,e=.returned (.agg vs.toArray)∧qaj w' w.heap.size c vs bs∧bs.Nodup)∧RdA w' rbase rp g cap Ts j∧Kept (fun k=>k=rp) w w'
 |.bad e0 p=>e=pan e0 p∧Kept (fun k=>k=rp) w w'
 |.out=>False
theorem qa7.badI {rbase rp g cap:Nat} {Ts:List Tk} {w w':World} {x:PR CT} {e:Ending} {e0 p:Int} (hx:x=.bad e0 p) (he:e=pan e0 p) (h:Kept (fun k=>k=rp) w w'):qa7 rbase rp g cap Ts w x e w':=by
 subst hx;exact⟨he,h⟩
theorem qa7.okI {rbase rp g cap:Nat} {Ts:List Tk} {w w':World} {x:PR CT} {e:Ending} {c:CT} {j:Nat} {vs:List Value} {bs:List Nat} (hx:x=.ok c j) (he:e=.returned (.agg vs.toArray)) (h1:qaj w' w.heap.size c vs bs) (h2:bs.Nodup) (h3:RdA w' rbase rp g cap Ts j) (h:Kept (fun k=>k=rp) w w'):qa7 rbase rp g cap Ts w x e w':=by
 subst hx;exact⟨⟨vs,bs,he,h1,h2⟩,h3,h⟩
mutual
theorem qaj.mono {w:World} {base base':Nat} (hb:base'≤base):∀(c:CT) (vs:List Value) (bs:List Nat),qaj w base c vs bs→qaj w base' c vs bs
 |.mk k nm tx pre sp ns kids p,vs,bs,h=>by
  unfold qaj at h ⊢;obtain⟨v3,v4,v5,v6,cs,ks,h1,h2,h3,h4,h5,h6,h7⟩:=h;exact⟨v3,v4,v5,v6,cs,ks,h1,qc6 h2 hb,qc6 h3 hb,qc6 h4 hb,qc6 h5 hb,qao.mono hb kids cs ks h6,h7⟩
theorem qao.mono {w:World} {base base':Nat} (hb:base'≤base):∀(l:List CT) (cs:List Value) (ks:List Nat),qao w base l cs ks→qao w base' l cs ks
 |[],cs,ks,h=>h
 |c::l,cs,ks,h=>by
  obtain⟨vs,bs,cs',ks',h1,h2,h3,h4⟩:=h;exact⟨vs,bs,cs',ks',h1,h2,qaj.mono hb c vs bs h3,qao.mono hb l cs' ks' h4⟩
end
theorem qaj.frame {F:Nat→Prop} {w w':World} {base base':Nat} {c:CT} {vs:List Value} {bs:List Nat} (h:qaj w base c vs bs) (hk:Kept F w w') (hF:∀k,F k→k<base) (hb:base'≤base):qaj w' base' c vs bs:=
 qaj.mono hb c vs bs (qaj.kept hk c vs bs h (fun k h1 h2=>by have:=(qaj.lt h k h1).1;have:=hF k h2;omega))
theorem qau (w:World) (base:Nat) (e:TypeId) (size:Nat):w.ownsRow base e size (.slice none 0 0) 0 []:=⟨by simp,.inl ⟨rfl,rfl⟩⟩
theorem qaj.leaf (w:World) (base:Nat) (k:Int) (nm tx:By) (p:Int):qaj w base (.mk k nm tx [] [] [] [] p) [.int .i64 k,.string ⟨nm.toArray⟩,.string ⟨tx.toArray⟩,.slice none 0 0,.slice none 0 0,.slice none 0 0,.slice none 0 0,.int .i64 p] []:=by
 unfold qaj;exact⟨_,_,_,_,[],[],rfl,qau w base 47 2,qau w base 68 2,qau w base 9 1,qau w base 60 8,⟨rfl,rfl⟩,rfl⟩
theorem TcA.ct {w:World} {base cp:Nat} {c:CT} {v3 v4 v5:Value} (h:TcA w base cp c v3 v4 v5):qaj w base c [.int .i64 c.k,.string ⟨c.nm.toArray⟩,.string ⟨c.tx.toArray⟩,v3,v4,v5,.slice none 0 0,.int .i64 c.p] (bk v3++(bk v4++(bk v5++[]))):=by
 cases c with
 |mk k nm tx pre sp ns kids p=>
  have e:kids=[]:=h.kids;subst e;unfold qaj;exact⟨_,_,_,_,[],[],rfl,h.o3,h.o4,h.o5,qau w base 60 8,⟨rfl,rfl⟩,rfl⟩
theorem qfu (v:Value):(blk v).Nodup:=by
 unfold blk;cases v.ownBlock with
 |none=>exact List.nodup_nil
 |some k=>simp
theorem qfv {w:World} {base e e' size size' n n':Nat} {v v':Value} {xs xs':List Value} (h:w.ownsRow base e size v n xs) (h':w.ownsRow base e' size' v' n' xs') (he:e≠e'):∀k∈blk v,∀j∈blk v',k≠j:=by
 intro k hk j hj e0;subst e0;obtain⟨cs,h1⟩:=qaw h k (qbc.1 hk);obtain⟨cs',h2⟩:=qaw h' k (qbc.1 hj);exact qar h1 h2 he rfl
theorem TcA.nodup {w:World} {base cp:Nat} {c:CT} {v3 v4 v5:Value} (h:TcA w base cp c v3 v4 v5):(bk v3++(bk v4++(bk v5++[]))).Nodup:=by
 rw[List.append_nil];have a:=qfv h.o3 h.o4 (by decide);have b:=qfv h.o3 h.o5 (by decide);have c:=qfv h.o4 h.o5 (by decide);refine List.nodup_append.2 ⟨qfu _,List.nodup_append.2 ⟨qfu _,qfu _,c⟩,fun k hk j hj=>?_⟩;rcases List.mem_append.1 hj with hj|hj
 ·exact a k hk j hj
 ·exact b k hk j hj
structure qcx (w:World) (base P:Nat) (kind p:Int) (ks:List CT) (v6:Value) (cs:List Value) (bs:List Nat):Prop where
 blk:w.heap[P]? =some (.cells #[.int .i64 kind,.string ⟨#[]⟩,.string ⟨#[]⟩,.slice none 0 0,.slice none 0 0,.slice none 0 0,v6,.int .i64 p] 60 (0,0))
 row:w.ownsRow base 60 8 v6 ks.length cs
 kids:qao w base ks cs bs
 bas:base≤P
 nd:(P::(bk v6++bs)).Nodup
theorem qcx.frame {F:Nat→Prop} {w w':World} {base P:Nat} {kind p:Int} {ks:List CT} {v6:Value} {cs:List Value} {bs:List Nat} (h:qcx w base P kind p ks v6 cs bs) (hk:Kept F w w') (hF:∀k,F k→k<base):qcx w' base P kind p ks v6 cs bs:=
 ⟨(hk.block P (Yd h.blk) (fun hf=>by have:=hF P hf;have:=h.bas;omega)).trans h.blk,qai h.row hk (fun k h1 h2=>by have:=(World.ownsRow.lt h.row k h1).1;have:=hF k h2;omega),qao.kept hk ks cs bs h.kids (fun k h1 h2=>by have:=(qao.lt h.kids k h1).1;have:=hF k h2;omega),h.bas,h.nd⟩
theorem qcx.below {w w':World} {base P:Nat} {kind p:Int} {ks:List CT} {v6:Value} {cs:List Value} {bs:List Nat} (h:qcx w base P kind p ks v6 cs bs) (x:Below w.heap.size w w'):qcx w' base P kind p ks v6 cs bs:=
 h.frame (F:=fun _=>False) (Kept.of_below x) (fun _ hf=>absurd hf (fun h=>h))
theorem qcx.ct {w:World} {base P:Nat} {kind p:Int} {ks:List CT} {v6:Value} {cs:List Value} {bs:List Nat} (h:qcx w base P kind p ks v6 cs bs):qaj w base (.mk kind [] [] [] [] [] ks p) [.int .i64 kind,.string ⟨#[]⟩,.string ⟨#[]⟩,.slice none 0 0,.slice none 0 0,.slice none 0 0,v6,.int .i64 p] (bk v6++bs):=by
 unfold qaj;exact⟨_,_,_,_,cs,bs,rfl,qau w base 47 2,qau w base 68 2,qau w base 9 1,h.row,h.kids,rfl⟩
theorem qcx.push {w0 w6:World} {base P g6 cap6:Nat} {kind p:Int} {ks:List CT} {v6:Value} {cs:List Value} {bs:List Nat} {c:CT} {vs:List Value} {cb:List Nat} {b1 H:Nat} (h:qcx w0 base P kind p ks v6 cs bs) (hc:qaj w0 b1 c vs cb) (hcn:cb.Nodup) (hb1:base≤b1) (hlo:∀k∈P::(bk v6++bs),k<b1)
 (hH:w0.heap.size=H) (hg:w0.grownBy w6 v6.ownBlock) (hr:w6.ownsRow base 60 8 (.slice (some ⟨g6,0,none⟩) (ks.length+1) cap6) (ks.length+1) (cs++vs)) (hgg:v6.ownBlock=some g6∨g6=H):
 let w7:=w6.setCell ⟨P,6,none⟩ (.slice (some ⟨g6,0,none⟩) (ks.length+1) cap6)
 qcx w7 base P kind p (ks++[c]) (.slice (some ⟨g6,0,none⟩) (ks.length+1) cap6) (cs++vs) (bs++cb):=by
 intro w7;have K1:=qae hg;have hnd:=List.nodup_cons.1 h.nd;have hPv:¬v6.ownBlock=some P:=fun e=>hnd.1 (List.mem_append.2 (.inl (qbc.2 e)))
 have B6:=(K1.block P (Yd h.blk) hPv).trans h.blk;have K2:Kept (fun k=>k=P) w6 w7:=Kept.setCell (F:=fun k=>k=P) (p:=⟨P,6,none⟩) (Kept.refl _ _) rfl _;have hsz:base≤w0.heap.size:=Nat.le_trans h.bas (Nat.le_of_lt (Yd h.blk));have Ez:=List.nodup_append.1 hnd.2;have JQ:qao w7 base ks cs bs:=by
  refine qao.kept K2 _ _ _ (qao.kept K1 _ _ _ h.kids (fun k h1 h2=>?_)) (fun k h1 h2=>?_)
  ·exact Ez.2.2 k (qbc.2 h2) k h1 rfl
  ·subst h2
   exact hnd.1 (List.mem_append.2 (.inr h1))
 have hct:qaj w7 base c vs cb:=by
  refine qaj.mono hb1 _ _ _ (qaj.kept K2 _ _ _ (qaj.kept K1 _ _ _ hc (fun k h1 h2=>?_)) (fun k h1 h2=>?_))
  ·have:=hlo k (List.mem_cons_of_mem _ (List.mem_append.2 (.inl (qbc.2 h2))))
   have:=(qaj.lt hc k h1).1;omega
  ·subst h2
   have:=hlo k (List.mem_cons_self);have:=(qaj.lt hc k h1).1;omega
 have NV:g6≠P:=by
  rcases hgg with e|e
  ·intro h1
   subst h1;exact hPv e
  ·have:=Yd h.blk
   omega
 refine⟨?_,?_,qao.snoc JQ hct,h.bas,?_⟩
 ·have:=qab B6 6 (.slice (some ⟨g6,0,none⟩) (ks.length+1) cap6)
  simpa using this
 ·rw[List.length_append,List.length_singleton]
  exact qai hr K2 (fun k h1 h2=>by
   have e:g6=k:=by simpa [Value.ownBlock] using h1
   exact NV (e.trans h2))
 ·have hmem:∀k∈bs,k<w0.heap.size:=fun k hk=>(qao.lt h.kids k hk).2
  have hmc:∀k∈cb,b1≤k∧k<w0.heap.size:=fun k hk=>qaj.lt hc k hk
  have hb:(bs++cb).Nodup:=List.nodup_append.2 ⟨Ez.2.1,hcn,fun a ha b hb e=>by
   have:=hlo a (List.mem_cons_of_mem _ (List.mem_append.2 (.inr ha)));have:=(hmc b hb).1;omega⟩
  have hgb:g6∉bs++cb:=fun hm=>by
   rcases List.mem_append.1 hm with hm|hm
   ·rcases hgg with e|e
    ·exact Ez.2.2 g6 (qbc.2 e) g6 hm rfl
    ·have:=hmem g6 hm
     omega
   ·rcases hgg with e|e
    ·have:=hlo g6 (List.mem_cons_of_mem _ (List.mem_append.2 (.inl (qbc.2 e))))
     have:=(hmc g6 hm).1;omega
    ·have:=(hmc g6 hm).2
     omega
  have hPb:P∉bs++cb:=fun hm=>by
   rcases List.mem_append.1 hm with hm|hm
   ·exact hnd.1 (List.mem_append.2 (.inr hm))
   ·have:=hlo P List.mem_cons_self
    have:=(hmc P hm).1;omega
  show(P::([g6]++(bs++cb))).Nodup;refine List.nodup_cons.2 ⟨fun hm=>?_,List.nodup_cons.2 ⟨hgb,hb⟩⟩;rcases List.mem_cons.1 hm with e|hm
  ·exact NV e.symm
  ·exact hPb hm
end Go.Proofs.YtlmhofjiobmodaaGreatDoor

