/-
  endNumber by its contract: a run of digits as a number. Conditions: the run has digits alone and one at least; the library's ErrRange reads as its text lays it.
-/
import Derived.Lib.AtoiErrMem
import Derived.Test.YtlmhofjiobmodaaGreatDoorP19
import Derived.Test.YtlmhofjiobmodaaGreatDoorP20
set_option maxRecDepth 100000
set_option maxHeartbeats 16000000
namespace Go.Proofs.YtlmhofjiobmodaaGreatDoor
open Go.RowKit Go.Lib
def qfx (base:Nat) (w:World):Prop:=∃g tp p,Tryz.prog.globalNamed "strconv.ErrRange" =some g∧g<base∧w.var? Tryz.prog "strconv.ErrRange" =some #[.iface tp p]
theorem qfx.below {base:Nat} {w w':World} (h:qfx base w) (hb:Below base w w'):qfx base w':=by
 obtain⟨g,tp,p,h1,h2,h3⟩:=h;refine⟨g,tp,p,h1,h2,?_⟩;unfold World.var? at *;rw[h1] at h3 ⊢;simp only[Option.bind_some] at h3 ⊢;rw[hb.block g h2];exact h3
def qdy (run:By):Option Nat:=match Lib.parseUintB 32 run with|.ok u=>if run.head? =some 48∧run≠[48] then none else some u|_=>none
def qch (x:SS) (run:By):Int×SS:=match qdy run with|some u=>(0,{ x with tk:=x.tk++[⟨4,[],u,0,0,x.fr⟩] })|none=>(81,x)
theorem qie (M:Nat):∀(l:By) (acc:Nat),(∀c∈l,48≤c.toNat∧c.toNat≤57)→parseUintM M acc l≠.«syntax»
 |[],acc,_=>by simp[parseUintM]
 |c::r,acc,h=>by
  rw[parseUintM,if_pos (h c List.mem_cons_self)];split
  ·simp
  ·split
   ·simp
   ·exact qie M r _ fun x hx=>h x (List.mem_cons_of_mem _ hx)
theorem qlo {l:By} (hl:l≠[]) (h:∀c∈l,48≤c.toNat∧c.toNat≤57):parseUintB 32 l≠.«syntax» :=by
 unfold parseUintB;rw[if_neg hl];exact qie _ l 0 h
theorem qsr {l:By} {u:Nat} (h:parseUintB 32 l=.ok u):u≤4294967295:=by
 unfold parseUintB at h;split at h
 ·cases h
 ·exact parseUintM_le _ l 0 u (by decide) h
section
variable {w:World} {base p:Nat} {s:By} {x:SS}
theorem qhg (h:ScA w base p s x) (run:By) (hr:run≠[]) (hd:∀c∈run,48≤c.toNat∧c.toNat≤57) (hrl:run.length≤4294967296) (hev:qfx base w) (hb:base≤w.heap.size) (hl:x.tk.length≤4294967296):
 Calls Tryz.prog 100 #[.pointer (some ⟨p,0,none⟩),.string ⟨run.toArray⟩] w fun e w'=>ScE w base p s (qch x run) e w':=by
 have hsz:=qa5 run;obtain⟨tv,ad,bv,h⟩:=h;have HH:=qaa h;have hlen:0<run.length:=List.length_pos_iff.2 hr;cases EU:parseUintB 32 run with
 | «syntax» =>exact absurd EU (qlo hr hd)
 |range=>
  obtain⟨g,tp,pv,h1,h2,h3⟩:=hev;have HM:Hid (qch x run=(81,x)):=by unfold Hid qch qdy;rw[EU]
  have HP:=qaa (Tryz.strconv_ParseUint_range ⟨run.toArray⟩ (by rw[hsz];omega) EU tp pv w h3);clear h h1 h2 h3 EU hd hr;go_enter Tryz.func100,Tryz.ntmps100;go_wp2_with (go_at_call 132;refine HP.out.mono ?_;rintro e w1 ⟨N,rfl,hN,hc,x1⟩;have X1:=qaa x1;clear x1 hN hc);go_ret;rw[HM.out];exact⟨rfl,⟨_,_,_,HH.out.below X1.out⟩,KpT.of_below X1.out,X1.out.size⟩
 |ok u=>
  have hu:=qsr EU;obtain⟨c,t,rfl⟩:=List.exists_cons_of_ne_nil hr;have HP:Hid (Calls Tryz.prog 132 #[.string ⟨(c::t).toArray⟩,.int .i64 10,.int .i64 32] w fun e w'=>e=.returned (.tuple #[.int .u64 u,.nilIface])∧Below w.heap.size w w'):=by
   refine(Tryz.strconv_ParseUint_ok ⟨(c::t).toArray⟩ (by rw[hsz];omega) u EU w).mono ?_;rintro e w' ⟨rfl,rfl|rfl⟩
   ·exact⟨rfl,Below.refl _ _⟩
   ·exact⟨rfl,bytesWorld_below w 5 _⟩
  have hS0:0<(⟨(c::t).toArray⟩:ByteArray).size:=by rw[hsz];simp
  have hix:∀hk,(⟨(c::t).toArray⟩:ByteArray)[0]'hk=c:=fun _=>rfl
  obtain⟨S,hS⟩:∃S:ByteArray,Hid (S=⟨(c::t).toArray⟩):=⟨_,rfl⟩;have hlim:u%18446744073709551616=u:=by omega
  have f1:IntKind.i64.wrap (u:Int)=(u:Int):=by simp[IntKind.wrap,IntKind.bits,IntKind.signed];omega
  have HA:=qaa (fun(W:World) (y:Below w.heap.size w W)=>(HH.out.below y).add ⟨4,[],u,0,0,0⟩ hl (Nat.le_trans hb y.size));unfold tkV at HA;by_cases h48:c=48
  ·subst h48
   by_cases ht:t=[]
   ·subst ht
    have HM:Hid (qch x [48]=(0,{ x with tk:=x.tk++[⟨4,[],u,0,0,x.fr⟩] })):=by unfold Hid qch qdy;rw[EU];simp
    clear h EU hd hr hS0 hix hsz hS;go_enter Tryz.func100,Tryz.ntmps100;go_wp2_with (first|(go_at_call 132;refine HP.out.mono ?_;rintro e w1 ⟨rfl,x1⟩;have HA1:=qaa (HA.out w1 x1);have X1:=qaa x1;clear x1)|(go_at_call 64;refine HA1.out.mono ?_;rintro e w2 ⟨rfl,hA,hK,hS⟩;have HA2:=qaa hA;have Bn:=qaa hK;have HS2:=qaa hS;clear hA hK hS));go_ret;rw[HM.out];exact⟨rfl,HA2.out,(KpT.of_below X1.out).trans Bn.out,Nat.le_trans X1.out.size HS2.out⟩
   ·have HM:Hid (qch x (48::t)=(81,x)):=by unfold Hid qch qdy;rw[EU];simp[ht]
    have hne:¬S=⟨#[48]⟩:=by
     rw[hS.out];intro e;have:=congrArg (fun b:ByteArray=>b.data.toList) e;simp at this;exact ht this
    have hne':(S.toList==[48])=false:=by
     rw[beq_eq_false_iff_ne];intro e;refine hne (ByteArray.ext (Array.toList_inj.1 ?_));rw[ByteArray.toList_eq] at e;exact e
    clear hne;rw[←hS.out] at HP hix hS0 ⊢;clear h EU hd hr hsz hS;go_enter Tryz.func100,Tryz.ntmps100;go_wp2_with (go_at_call 132;refine HP.out.mono ?_;rintro e w1 ⟨rfl,x1⟩;have X1:=qaa x1;clear x1);go_ret;rw[HM.out];exact⟨rfl,⟨_,_,_,HH.out.below X1.out⟩,KpT.of_below X1.out,X1.out.size⟩
  ·have h48':¬(c.toNat:Int)=48:=by
    intro e;exact h48 (UInt8.toNat_inj.1 (by show c.toNat=48;omega))
   have g48:((c.toNat:Int)==48)=false:=by simpa using h48'
   have HM:Hid (qch x (c::t)=(0,{ x with tk:=x.tk++[⟨4,[],u,0,0,x.fr⟩] })):=by unfold Hid qch qdy;rw[EU];simp[h48]
   rw[←hS.out] at HP hix hS0 ⊢;clear h EU hd hr hsz hS;go_enter Tryz.func100,Tryz.ntmps100;go_wp2_with (first|(go_at_call 132;refine HP.out.mono ?_;rintro e w1 ⟨rfl,x1⟩;have HA1:=qaa (HA.out w1 x1);have X1:=qaa x1;clear x1)|(go_at_call 64;refine HA1.out.mono ?_;rintro e w2 ⟨rfl,hA,hK,hS⟩;have HA2:=qaa hA;have Bn:=qaa hK;have HS2:=qaa hS;clear hA hK hS));go_ret;rw[HM.out];exact⟨rfl,HA2.out,(KpT.of_below X1.out).trans Bn.out,Nat.le_trans X1.out.size HS2.out⟩
end
end Go.Proofs.YtlmhofjiobmodaaGreatDoor

