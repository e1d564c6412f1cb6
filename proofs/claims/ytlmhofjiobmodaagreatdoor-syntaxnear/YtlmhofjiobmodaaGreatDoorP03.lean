/-
  strings.Builder's String at an address that lies in whatever block; Reset whatever lies there. Conditions: as in the texts before; a builder without bytes has no row.
-/
import Derived.Lib.UnsafeStr
import Derived.Test.YtlmhofjiobmodaaGreatDoorP02
import Derived.Lib.OthersKept
import Derived.Laws.RangeAny
import Derived.Test.YtlmhofjiobmodaaGreatDoorP01
import Derived.Laws.Rows
import Derived.Deep.RegionHeld3
import Derived.Deep.AppendLies
import Derived.Deep.RegionLaw
set_option maxRecDepth 100000
set_option maxHeartbeats 16000000
namespace Go.Proofs.YtlmhofjiobmodaaGreatDoor
open Go.RowKit Go.Lib
theorem KpO.freeze {base b g n:Nat} {w:World} {c:Array Value} {f:Nat×Nat} (hbg:base≤g) (hg:w.heap[g]? =some (.cells c 5 f)):KpO 5 base b w (w.freeze ⟨g,0,none⟩ n):=by
 unfold World.freeze;split
 ·exact KpO.refl _ _
 ·refine⟨rfl,rfl,rfl,by simp,fun k hk hF=>?_⟩
  simp only[Array.getElem?_modify];by_cases e:g=k
  ·subst e
   exact absurd (.inr ⟨hbg,c,f,hg⟩) hF
  ·rw[if_neg e]
theorem qiy (w:World) (a:Addr) (n:Nat):(w.freeze a n).heap.size=w.heap.size:=by
 unfold World.freeze;split
 ·rfl
 ·simp
structure BuC (w:World) (base b o:Nat) (e:TypeId) (cs:Array Value):Prop where
 blk:w.heap[b]? =some (.cells cs e (0,0))
 ge:base≤b
 ho:o+1<cs.size
 lies:liesAt Tryz.prog Tryz.prog.depth e (cs.size/Tryz.prog.cellsOf e) o 87 1=true
 ne:e≠5∧e≠49
section
variable {w w':World} {base b o:Nat} {e:TypeId} {cs:Array Value} {l:List UInt8}
theorem BuB.toC (h:BuB w base b o e cs l):BuC w base b o e cs:=⟨h.blk,h.ge,h.ho,h.lies,h.ne⟩
theorem BuC.reset (h:BuC w base b o e cs):Calls Tryz.prog 89 #[.pointer (some ⟨b,o,none⟩)] w fun x w'=>x=.returned (.tuple #[])∧BuB w' base b o e ((cs.set! o (.pointer none)).set! (o+1) (.slice none 0 0)) []∧KpO 5 base b w w':=by
 have HH:=qaa h;have d2:=frozen_of_row _ _ o _ _ h.blk;have d3:=frozen_of_row _ _ (o+1) _ _ h.blk;have hy:w.cell? ⟨b,o,none⟩=some (cs[o]'(by have:=h.ho;omega)):=by rw[cell_of_row _ _ _ _ _ _ h.blk];exact Array.getElem?_eq_getElem _
 have hy2:w.cell? ⟨b,o+1,none⟩=some (cs[o+1]'h.ho):=by rw[cell_of_row _ _ _ _ _ _ h.blk];exact Array.getElem?_eq_getElem _
 generalize cs[o]'(by have:=h.ho;omega)=y at hy;generalize cs[o+1]'h.ho=y2 at hy2;clear h;go_enter Tryz.func89,Tryz.ntmps89;go_wp2;go_end0;refine⟨rfl,⟨?_,HH.out.ge,by simpa using HH.out.ho,by simpa using HH.out.lies,HH.out.ne,.inl ?_,.slice none 0 0,?_,World.ownsRow_nil _ _ _ _⟩,(KpO.set _).trans (KpO.set _)⟩
 ·exact qab (qab HH.out.blk _ _) _ _
 ·have:=HH.out.ho
  rw[Array.set!_eq_setIfInBounds,Array.getElem?_setIfInBounds_ne (show o+1≠o by omega),Array.set!_eq_setIfInBounds,Array.getElem?_setIfInBounds_self_of_lt (by omega)]
 ·have:=HH.out.ho
  rw[Array.set!_eq_setIfInBounds,Array.getElem?_setIfInBounds_self_of_lt (by simpa using this)]
theorem BuB.string (h:BuB w base b o e cs l) (h0:l=[]→cs[o+1]? =some (.slice none 0 0)):
 Calls Tryz.prog 67 #[.pointer (some ⟨b,o,none⟩)] w fun x w'=>x=.returned (.string ⟨l.toArray⟩)∧BuC w' base b o e cs∧KpO 5 base b w w'∧w.heap.size≤w'.heap.size:=by
 obtain⟨v,hv,hr⟩:=h.row;obtain⟨-,d1,-,-⟩:=h.cells;by_cases hl:l=[]
 ·subst hl
  rw[h0 rfl] at d1;have c1:w.drew.cell? ⟨b,o+1,none⟩=some (.slice none 0 0):=d1;have hUS:∀(W:World) (q:Option Addr),(Builtin.unsafeString_ #[140,3] 9 #[.pointer q,.int .i64 0]).run Tryz.prog W=.ok (.string .empty) W:=fun W q=>Lib.run_unsafeString_none W _ _ _ q
  have hSD:(Builtin.unsafeSliceData_ #[64] 140 #[.slice none 0 0]).run Tryz.prog w.drew=.ok (.pointer none) w.drew:=rfl;have HC:=qaa h.toC;have HD:Hid (KpO 5 base b w w.drew):=Kept.drew (KpO.refl b w);have BH:Hid (BuC w.drew base b o e cs):=⟨HC.out.blk,HC.out.ge,HC.out.ho,HC.out.lies,HC.out.ne⟩;clear hv hr h h0 HC;go_enter Tryz.func67,Tryz.ntmps67;go_wp2;go_region
  all_goals
   go_wp2;go_ret;exact⟨rfl,BH.out,HD.out,Nat.le_refl _⟩
 ·have hn:0<l.length:=List.length_pos_iff.2 hl
  obtain⟨g,cap,cur,hv',hbg,hg,hnc,hcm,hcs,htake⟩:∃g cap cur,v=.slice (some ⟨g,0,none⟩) l.length cap∧base≤g∧w.heap[g]? =some (.cells cur 5 (0,0))∧l.length≤cap∧cap≤maxLen∧cur.size=cap*1∧cur.toList.take (l.length*1)=Lib.byteCells l:=by
   rcases hr.2 with⟨_,hz⟩|⟨g,cap,cur,q1,q2,q3,q4,q5,q6,q7⟩
   ·omega
   ·exact⟨g,cap,cur,q1,q2,q3,q4,q5,q6,q7⟩
  subst hv';rw[hv] at d1;have c1:w.drew.cell? ⟨b,o+1,none⟩=some (.slice (some ⟨g,0,none⟩) l.length cap):=d1;have hSD:(Builtin.unsafeSliceData_ #[64] 140 #[.slice (some ⟨g,0,none⟩) l.length cap]).run Tryz.prog w.drew=.ok (.pointer (some ⟨g,0,none⟩)) w.drew:=Lib.run_unsafeSliceData_row _ _ _ _ _ _ (by omega);have hUS:(Builtin.unsafeString_ #[140,3] 9 #[.pointer (some ⟨g,0,none⟩),.int .i64 l.length]).run Tryz.prog w.drew=.ok (.string ⟨l.toArray⟩) (w.drew.freeze ⟨g,0,none⟩ l.length):=by
   refine Lib.run_unsafeString_row w.drew 140 3 9 5 Tryz.underlying140 (by kernel_rfl) g cur.size (by have hg':w.drew.heap[g]? =some (.cells cur 5 (0,0)):=hg;simp[World.shape?,hg']) l hl (by omega) (by unfold maxLen at hcm;omega) ?_;intro j x hx;have:=hr.cells (g:=g) rfl j (.int .u8 x.toNat) (by simp[Lib.byteCells,hx]);exact this
  have HD:Hid (KpO 5 base b w (w.drew.freeze ⟨g,0,none⟩ l.length)):=(Kept.drew (KpO.refl b w):KpO 5 base b w w.drew).trans (KpO.freeze (w:=w.drew) hbg hg);have hgb:=h.apart hr (.inl rfl) g rfl;have BH:Hid (BuC (w.drew.freeze ⟨g,0,none⟩ l.length) base b o e cs):=by
   refine⟨?_,h.ge,h.ho,h.lies,h.ne⟩;have hb:w.drew.heap[b]? =some (.cells cs e (0,0)):=h.blk;unfold World.freeze;split
   ·exact hb
   ·simp only[Array.getElem?_modify]
    rw[if_neg hgb];exact hb
  have HS:Hid (w.heap.size≤(w.drew.freeze ⟨g,0,none⟩ l.length).heap.size):=by unfold Hid;rw[qiy];exact Nat.le_refl _
  clear hv hr h h0 hbg hg hcm hcs htake;go_enter Tryz.func67,Tryz.ntmps67;go_wp2;go_region
  all_goals
   go_wp2;go_ret;exact⟨rfl,BH.out,HD.out,HS.out⟩
end
abbrev By:=List UInt8
def bI (b:UInt8):Int:=(b.toNat:Int)
def qd6 (k:Int) (s:By):Bool:=s.all fun b=>goB k (bI b)
def fsB:By→Bool
 |[]=>false
 |b::_=>smB (bI b)
def nmB (s:By):Bool:=decide (s.length≤32)&& !wdB s&&fsB s&&qd6 2 s
theorem qa5 (s:By):(⟨s.toArray⟩:ByteArray).size=s.length:=by simp[ByteArray.size]
theorem qcz (s:By) (i:Nat) (h:i<(⟨s.toArray⟩:ByteArray).size):(⟨s.toArray⟩:ByteArray)[i]'h=s[i]'(by rw[←qa5];exact h):=by
 show s.toArray[i]'_=_;simp
theorem qo0 (s:By) {i:Nat} (h:i<s.length) (hb:s[i].toNat<128):Utf8.decode ⟨s.toArray⟩ i=(s[i].toNat,1):=by
 have h':i<(⟨s.toArray⟩:ByteArray).size:=by rw[qa5];exact h
 rw[decode_ascii _ i h' (by rw[qcz];exact hb),qcz]
theorem qhv (s:By) {i:Nat} (h:i<s.length) (hb:¬s[i].toNat<128):128≤(Utf8.decode ⟨s.toArray⟩ i).1∧1≤(Utf8.decode ⟨s.toArray⟩ i).2:=by
 have h':i<(⟨s.toArray⟩:ByteArray).size:=by rw[qa5];exact h
 exact decode_high _ i h' (by rw[qcz];omega)
theorem qfj {k r:Int} (h:128≤r):goB k r=false:=by
 unfold goB smB dgB grB;have e1:decide (r≤122)=false:=by simp;omega
 have e2:decide (r≤57)=false:=by simp;omega
 have e3:decide (r≤90)=false:=by simp;omega
 have e4:decide (r=95)=false:=by simp;omega
 have e5:decide (r=45)=false:=by simp;omega
 have e6:decide (r=46)=false:=by simp;omega
 have e7:decide (r=47)=false:=by simp;omega
 rw[e1,e2,e3,e4,e5,e6,e7];simp
theorem qo1 {r:Int} (h:smB r=true):goB 2 r=true:=by unfold goB;rw[if_pos rfl,h];simp
theorem qfk {k:Int} {s:By} {i:Nat} (h:i<s.length) (hb:goB k (bI s[i])=false):qd6 k s=false:=by
 unfold qd6;rw[List.all_eq_false];exact⟨s[i],List.getElem_mem h,by simp[hb]⟩
theorem qk5 {k:Int} {s:By} (h:∀i (hi:i<s.length),goB k (bI s[i])=true):qd6 k s=true:=by
 unfold qd6;rw[List.all_eq_true];intro b hb;obtain⟨i,hi,rfl⟩:=List.getElem_of_mem hb;exact h i hi
theorem qk6 (s:By) (w:World) (hs:s.length≤140737488351232):Calls Tryz.prog 135 #[.string ⟨s.toArray⟩] w fun e w'=>e=.returned (.bool (nmB s))∧Below w.heap.size w w':=by
 have HW:=qaa (fun W=>qgl s W);have hsz:=qa5 s;by_cases hl:32<s.length
 ·have hl':(32:Int)<(s.length:Int):=by omega
  have key:Hid (nmB s=false):=by
   unfold Hid nmB;have:decide (s.length≤32)=false:=by simp;omega
   rw[this];simp
  go_enter Tryz.func135,Tryz.ntmps135;go_wp2;go_ret;exact⟨by rw[key.out];rfl,Below.refl _ _⟩
 ·have hl':¬(32:Int)<(s.length:Int):=by omega
  cases hb:wdB s with
  |true=>
   have key:Hid (nmB s=false):=by unfold Hid nmB;rw[hb];simp
   rw[hb] at HW;clear hb;go_enter Tryz.func135,Tryz.ntmps135;go_wp2_with (go_at_call 129;refine(HW.out _).mono ?_;rintro e wz ⟨rfl,Ba⟩;have Ba:=Ba.symm;subst Ba);go_ret;exact⟨by rw[key.out];rfl,Below.refl _ _⟩
  |false=>
   have key:Hid (nmB s=(fsB s&&qd6 2 s)):=by
    unfold Hid nmB;have:decide (s.length≤32)=true:=by simp;omega
    rw[this,hb];simp
   rw[hb] at HW;clear hb;go_enter Tryz.func135,Tryz.ntmps135;go_wp2_with (go_at_call 129;refine(HW.out _).mono ?_;rintro e wz ⟨rfl,Ba⟩;have Ba:=Ba.symm;subst Ba);go_loopw [] (fun wr=>∃pos:Nat,wr.heap[w.heap.size]? =some (.stringIter ⟨s.toArray⟩ pos)∧Below w.heap.size w wr∧pos≤s.length∧Hid (∀i (hi:i<s.length),i<pos→goB 2 (bI s[i])=true)∧Hid (0<pos→fsB s=true)) (fun wr=>s.length-wr.iterPos w.heap.size)
   case atStart=>
    refine⟨0,?_,(Below.refl _ w).alloc (Nat.le_refl _) _,by omega,fun i _ h=>by omega,fun h=>by omega⟩;have:=World.iter_heap w ⟨s.toArray⟩ 0;simpa using this
   case round=>
    obtain⟨pos,hit,hbw,hp1,HG,HF⟩:=hrel;by_cases hp:pos<s.length
    ·have hp':pos<(⟨s.toArray⟩:ByteArray).size:=by rw[hsz];exact hp
     have hit2:=fun q=>Lib.iterAt_heap wr w.heap.size ⟨s.toArray⟩ pos q hit
     have hbw2:=fun q=>Lib.below_iterAt hbw (k:=w.heap.size) (Nat.le_refl _) ⟨s.toArray⟩ q
     by_cases ha:s[pos].toNat<128
     ·have hnx:∀ty,(Instr.next (.pointer (some ⟨w.heap.size,0,none⟩)) true ty).run Tryz.prog wr=_:=fun ty=>Lib.run_next_ascii_at wr w.heap.size ⟨s.toArray⟩ pos ty hit hp' (by rw[qcz];exact ha)
      rw[qcz] at hnx;have HB:Hid (bI s[pos]=(s[pos].toNat:Int)):=rfl;have H1:=qaa (fun W=>qcm (s[pos].toNat:Int) W);have H2:=qaa (fun W=>qdt 2 (s[pos].toNat:Int) W);have MB:Hid (pos=0→fsB s=smB (s[pos].toNat:Int)):=fun h=>by
       subst h;cases s with
       |nil=>simp at hp
       |cons b t=>rfl
      have Bl:=qaa (hbw2 (pos+1));have HI2:=qaa (hit2 (pos+1));have MC:Hid (goB 2 (s[pos].toNat:Int)=true→∀i (hi:i<s.length),i<pos+1→goB 2 (bI s[i])=true):=fun h i hi h2=>by
       by_cases h3:i<pos
       ·exact HG.out i hi h3
       ·obtain rfl:i=pos:=by omega
        exact h
      have ME:Hid (goB 2 (s[pos].toNat:Int)=false→qd6 2 s=false):=fun h=>qfk hp h
      have GI:Hid (pos=0→smB (s[pos].toNat:Int)=false→fsB s=false):=fun h h2=>by rw[MB.out h,h2]
      have MF:Hid (smB (s[pos].toNat:Int)=true→goB 2 (s[pos].toNat:Int)=true):=fun h=>qo1 h
      generalize s[pos].toNat=r at *;obtain⟨b1,e1⟩:∃b,smB (r:Int)=b:=⟨_,rfl⟩;obtain⟨b2,e2⟩:∃b,goB 2 (r:Int)=b:=⟨_,rfl⟩;rw[e1] at H1 MB GI MF;rw[e2] at H2 MC ME MF;clear e1 e2 hit2 hbw2 HB HG;cases b2 with
      |false=>
       have HR:Hid ((fsB s&&qd6 2 s)=false):=by unfold Hid;rw[ME.out rfl,Bool.and_false]
       by_cases h0:pos=0
       ·subst h0
        cases b1
        all_goals
         go_wp2_with (first|(go_at_call 92;refine(H1.out _).mono ?_;rintro e wz ⟨rfl,Ba⟩;have Ba:=Ba.symm;subst Ba)|(go_at_call 61;refine(H2.out _).mono ?_;rintro e wz ⟨rfl,Ba⟩;have Ba:=Ba.symm;subst Ba));go_ret;exact⟨by rw[key.out,HR.out];rfl,Bl.out⟩
       ·have h0':¬(pos:Int)=0:=by omega
        go_wp2_with (go_at_call 61;refine(H2.out _).mono ?_;rintro e wz ⟨rfl,Ba⟩;have Ba:=Ba.symm;subst Ba);go_ret;exact⟨by rw[key.out,HR.out];rfl,Bl.out⟩
      |true=>
       have NW:=qaa (MC.out rfl);clear MC ME MF;by_cases h0:pos=0
       ·subst h0
        have JR:=qaa (MB.out rfl);cases b1 with
        |false=>
         have HR:Hid ((fsB s&&qd6 2 s)=false):=by unfold Hid;rw[GI.out rfl rfl,Bool.false_and]
         go_wp2_with (go_at_call 92;refine(H1.out _).mono ?_;rintro e wz ⟨rfl,Ba⟩;have Ba:=Ba.symm;subst Ba);go_ret;exact⟨by rw[key.out,HR.out];rfl,Bl.out⟩
        |true=>
         go_wp2_with (first|(go_at_call 92;refine(H1.out _).mono ?_;rintro e wz ⟨rfl,Ba⟩;have Ba:=Ba.symm;subst Ba)|(go_at_call 61;refine(H2.out _).mono ?_;rintro e wz ⟨rfl,Ba⟩;have Ba:=Ba.symm;subst Ba));go_roundw
         case rel=>exact⟨1,HI2.out,Bl.out,hp,NW.out,fun _=>JR.out⟩
         case measure=>
          simp only[World.iterPos,HI2.out,hit];omega
       ·have h0':¬(pos:Int)=0:=by omega
        go_wp2_with (go_at_call 61;refine(H2.out _).mono ?_;rintro e wz ⟨rfl,Ba⟩;have Ba:=Ba.symm;subst Ba);go_roundw
        case rel=>exact⟨pos+1,HI2.out,Bl.out,hp,NW.out,fun _=>HF.out (by omega)⟩
        case measure=>
         simp only[World.iterPos,HI2.out,hit];omega
     ·have hnx:∀ty,(Instr.next (.pointer (some ⟨w.heap.size,0,none⟩)) true ty).run Tryz.prog wr=_:=fun ty=>Lib.run_next_any_at wr w.heap.size ⟨s.toArray⟩ pos ty hit hp'
      obtain⟨hd1,hd2⟩:=qhv s hp ha;have HR:Hid ((fsB s&&qd6 2 s)=false):=by unfold Hid;rw[qfk hp (qfj (by unfold bI;omega)),Bool.and_false]
      have Bl:=qaa (hbw2 (pos+(Utf8.decode ⟨s.toArray⟩ pos).2));generalize (Utf8.decode ⟨s.toArray⟩ pos).2=wd at *;generalize (Utf8.decode ⟨s.toArray⟩ pos).1=r at *;have H1:=qaa (fun W=>qcm (r:Int) W);have H2:=qaa (fun W=>qdt 2 (r:Int) W);rw[qfj (by omega)] at H2;have hsm:smB (r:Int)=false:=by unfold smB;have:decide ((r:Int)≤122)=false:=(by simp;omega);rw[this,Bool.and_false]
      rw[hsm] at H1;clear hit2 hbw2 hsm;by_cases h0:pos=0
      ·subst h0
       go_wp2_with (go_at_call 92;refine(H1.out _).mono ?_;rintro e wz ⟨rfl,Ba⟩;have Ba:=Ba.symm;subst Ba);go_ret;exact⟨by rw[key.out,HR.out];rfl,by simpa using Bl.out⟩
      ·have h0':¬(pos:Int)=0:=by omega
       go_wp2_with (go_at_call 61;refine(H2.out _).mono ?_;rintro e wz ⟨rfl,Ba⟩;have Ba:=Ba.symm;subst Ba);go_ret;exact⟨by rw[key.out,HR.out];rfl,Bl.out⟩
    ·have hnx:∀ty,(Instr.next (.pointer (some ⟨w.heap.size,0,none⟩)) true ty).run Tryz.prog wr=_:=fun ty=>Lib.run_next_end_at wr w.heap.size ⟨s.toArray⟩ pos ty hit (by rw[hsz];exact hp)
     have Bl:=qaa hbw;cases s with
     |nil=>
      have HR:Hid ((fsB []&&qd6 2 [])=false):=rfl;go_wp2;go_ret;exact⟨by rw[key.out,HR.out];rfl,Bl.out⟩
     |cons b t=>
      have HR:Hid ((fsB (b::t)&&qd6 2 (b::t))=true):=by
       unfold Hid;rw[HF.out (by simp at hp;omega),qk5 (fun i hi=>HG.out i hi (by omega))];rfl
      have hne:((b::t)==([]:By))=false:=rfl;go_wp2;go_ret;exact⟨by rw[key.out,HR.out];rfl,Bl.out⟩
section
variable {P:Program} {ops:Array Oper} {Q:Exit→Act→World→Prop} {md:Region.Mode} {S:World→Prop} {z:Nat}
def qac (P:Program) (md:Region.Mode) (ops:Array Oper) (Q:Exit→Act→World→Prop) (S:World→Prop) (z:Nat):Nat→Array Bool→Act→World→Prop
 |0,done,a,w=>Region.ready md ops done=[]∧Q .normal a w
 |n+1,done,a,w=>(Region.ready md ops done=[]→Q .normal a w)∧∀i∈Region.ready md ops done,wpOp P ops Q i (fun a' w'=>((done.setIfInBounds i true).getD z true=false→S w')∧qac P md ops Q S z n (done.setIfInBounds i true) a' w') a w
theorem qac.any:∀(n:Nat) (done:Array Bool) (a:Act) (w:World),qac P md ops Q S z n done a w→wpAny P md ops Q n done a w
 |0,_,_,_,h=>h
 |n+1,_,_,_,h=>⟨h.1,fun i hi=>wpOp_mono (fun a' w' k=>qac.any n _ a' w' k.2) (h.2 i hi)⟩
def qtn (md:Region.Mode) (ops:Array Oper) (i:Nat):List Nat:=
 (List.range ops.size).foldl (fun C c=>match ops[c]? with
   |some o=>if o.after.any (fun e=>Region.binds md e&&(e.on==i||C.contains e.on)) then c::C else C
   |none=>C) []
def qto (md:Region.Mode) (ops:Array Oper) (done:Array Bool) (i z:Nat) (C:List Nat):Bool:=
 C.contains z&& !C.contains i&&C.all fun c=> !done.getD c true&&match ops[c]? with
  |some o=>o.after.any fun e=>Region.binds md e&&(e.on==i||C.contains e.on)
  |none=>false
theorem qac.first {i:Nat} {oi:Oper} {v:Value} {C:List Nat} (hi:ops[i]? =some oi) (MG:z∈C) (Pn:i∉C) (hC:∀c∈C,∃oc,ops[c]? =some oc∧∃e∈oc.after,Region.binds md e=true∧(e.on=i∨e.on∈C)) (hsel:∀(j:Nat) (o:Oper) cs b,ops[j]? =some o→o.op≠.select cs b) (hQ:∀c a w,Q (.panic c) (a.put oi.dst v) w→Q (.panic c) a w):
 ∀(n:Nat) (done:Array Bool) (a:Act) (w:World),(∀c∈C,done.getD c true=false)→(∀j oj,ops[j]? =some oj→j≠i→done.getD j true=false→(∀e∈oj.after,Region.binds md e=true→e.on≠i)→oi.apart ops oj=true)→
  i∈Region.ready md ops done→YieldsIf P ops S oi v a→S w→qac P md ops Q S z n (done.setIfInBounds i true) (a.put oi.dst v) w→qac P md ops Q S z (n+1) done a w:=by
 intro n
 induction n with
 |zero=>
  intro done a w _ _ hr hy hS H;refine⟨fun h=>(by rw[h] at hr;cases hr),fun j hj=>?_⟩;by_cases hji:j=i
  ·subst hji;exact hy.wpOp hi hS ⟨fun _=>hS,H⟩
  ·have h1:=ready_mono hj hji
   rw[H.1] at h1;cases h1
 |succ n ih=>
  intro done a w hzu hfree hr hy hS H;refine⟨fun h=>(by rw[h] at hr;cases hr),fun j hj=>?_⟩;by_cases hji:j=i
  ·subst hji;exact hy.wpOp hi hS ⟨fun _=>hS,H⟩
  ·have h1:=H.2 j (ready_mono hj hji)
   obtain⟨hjun,oj,hoj,hall⟩:=mem_ready.1 hj;have hun:¬done.getD i false=true:=fun h=>by
    have h0:=(mem_ready.1 hr).1;rcases Nat.lt_or_ge i done.size with h'|h'
    ·simp[h'] at h0 h;rw[h0] at h;cases h
    ·simp[Array.getElem?_eq_none h'] at h
   have Bj:∀e∈oj.after,Region.binds md e=true→e.on≠i:=fun e he hb heq=>hun (by rw[←heq];exact hall e he hb)
   have Mh:j∉C:=fun Mh=>by
    obtain⟨oc,h1,x,x1,x2,x3⟩:=hC j Mh;rw[hoj] at h1;cases h1;rcases x3 with x3|x3
    ·exact Bj x x1 x2 x3
    ·have h2:=hall x x1 x2
     have h3:=hzu _ x3;rcases Nat.lt_or_ge x.on done.size with h'|h'
     ·simp[h'] at h2 h3;rw[h2] at h3;cases h3
     ·simp[Array.getElem?_eq_none h'] at h2
   have MH:∀c∈C,(done.setIfInBounds j true).getD c true=false:=fun c hc=>by
    have hne:j≠c:=fun e=>Mh (by rw[e];exact hc)
    rw[getD_set_ne true hne];exact hzu c hc
   have MI:((done.setIfInBounds i true).setIfInBounds j true).getD z true=false:=by
    have hn1:j≠z:=fun e=>Mh (by rw[e];exact MG)
    have hn2:i≠z:=fun e=>Pn (by rw[e];exact MG)
    rw[getD_set_ne true hn1,getD_set_ne true hn2];exact hzu z MG
   have h2:=wpOp_putIf hoj (hfree j oj hoj hji hjun Bj) (fun cs b=>hsel i oi cs b hi) (fun cs b=>hsel j oj cs b hoj) hQ hy h1;have hfree':∀k ok,ops[k]? =some ok→k≠i→(done.setIfInBounds j true).getD k true=false→(∀e∈ok.after,Region.binds md e=true→e.on≠i)→oi.apart ops ok=true:=fun k ok hk hki hu hn=>by
    refine hfree k ok hk hki ?_ hn;by_cases hjk:j=k
    ·subst hjk;exact hjun
    ·rw[getD_set_ne true hjk] at hu;exact hu
   refine wpOp_mono (fun a' w' h3=>?_) h2;have hS':=h3.2.1 MI;refine⟨fun _=>hS',ih (done.setIfInBounds j true) a' w' MH hfree' (ready_mono hr (Ne.symm hji)) h3.1 hS' ?_⟩;rw[Array.setIfInBounds_comm _ _ hji];exact h3.2.2
theorem qac.take {i n:Nat} {oi:Oper} {done:Array Bool} {a:Act} {w:World} (d:Option Nat) (hi:ops[i]? =some oi) (hd:oi.dst=d) (hz:qto md ops done i z (qtn md ops i)=true) (hs:Region.noSelect ops=true) (hf:Region.free md ops done i=true) (hr:(Region.ready md ops done).contains i=true)
 (hQ:∀v c a w,Q (.panic c) (a.put oi.dst v) w→Q (.panic c) a w) (hw:Region.wanted oi (yielded ops a.tmps)=true) (hS:S w) (h:∃v,(∀w',S w'→(execOp a.eval oi).run P w'=.ok (.value v) w')∧qac P md ops Q S z n (done.setIfInBounds i true) (a.put d v) w):qac P md ops Q S z (n+1) done a w:=by
 obtain⟨v,h1,h2⟩:=h;rw[←hd] at h2
 revert hz
 generalize qtn md ops i=C;intro hz;simp only[qto,Bool.and_eq_true,List.all_eq_true,Bool.not_eq_true',List.contains_iff_mem] at hz;obtain⟨⟨hz1,hz2⟩,hz3⟩:=hz;refine qac.first (C:=C) hi hz1 ?_ ?_ (Region.noSelect_spec hs) (hQ v) n done a w (fun c hc=>(hz3 c hc).1) (Region.free_spec hi hf) (by simpa using hr) (.inl ⟨hw,h1⟩) hS h2
 ·intro h0
  rw[List.contains_iff_mem.2 h0] at hz2;cases hz2
 ·intro c hc
  have h3:=(hz3 c hc).2;cases ho:ops[c]? with
  |none=>rw[ho] at h3;cases h3
  |some o=>
   rw[ho] at h3;obtain⟨k,hk,e⟩:=Array.any_eq_true.1 h3;simp only[Bool.and_eq_true,Bool.or_eq_true,beq_iff_eq,List.contains_iff_mem] at e;exact⟨o,rfl,o.after[k],Array.getElem_mem hk,e.1,e.2⟩
theorem qac.one {i n:Nat} {done:Array Bool} {a:Act} {w:World} (hr:Region.ready md ops done=[i]) (h:wpOp P ops Q i (fun a' w'=>((done.setIfInBounds i true).getD z true=false→S w')∧qac P md ops Q S z n (done.setIfInBounds i true) a' w') a w):qac P md ops Q S z (n+1) done a w:=
 ⟨fun h0=>(by rw[hr] at h0;cases h0),fun j hj=>by
   rw[hr] at hj;obtain rfl:=List.mem_singleton.1 hj;exact h⟩
theorem qac.step {i n:Nat} {o:Oper} {done:Array Bool} {a:Act} {w:World} (hr:Region.ready md ops done=[i]) (ho:ops[i]? =some o) (h:∀K':Act→World→Prop,Shut (∀a w,S w→qac P md ops Q S z n (done.setIfInBounds i true) a w→K' a w)→if Region.wanted o (yielded ops a.tmps)=true then Oper.wp P o a w K' Q else K' (a.put o.dst undef) w):qac P md ops Q S z (n+1) done a w:=
 qac.one hr (wpOp_step ho (fun K' hK=>h K' (fun a w h1 h2=>hK a w ⟨fun _=>h1,h2⟩)))
theorem qac.last {n:Nat} {o:Oper} {done:Array Bool} {a:Act} {w:World} (hr:Region.ready md ops done=[z]) (ho:ops[z]? =some o) (hr2:Region.ready md ops (done.setIfInBounds z true)=[]) (hz:(done.setIfInBounds z true).getD z true=true) (h:∀K':Act→World→Prop,Shut (∀a w,Q .normal a w→K' a w)→if Region.wanted o (yielded ops a.tmps)=true then Oper.wp P o a w K' Q else K' (a.put o.dst undef) w):qac P md ops Q S z (n+1) done a w:=
 qac.one hr (wpOp_step ho (fun K' hK=>h K' (fun a w h1=>hK a w ⟨fun h2=>(by rw[hz] at h2;cases h2),by
  cases n with
  |zero=>exact⟨hr2,h1⟩
  |succ n=>exact⟨fun _=>h1,fun j hj=>by rw[hr2] at hj;cases hj⟩⟩)))
theorem qam {id:Nat} {a:Act} {w:World} (z:Nat) (hm:P.follows .mixedOrders=true) (h:qac P .any ops Q S z ops.size (Array.replicate ops.size false) a w.drew):(Code.region id ops true).wp P Q a w:=wp_region_any hm (qac.any _ _ _ _ h)
end
section
variable {P:Program} {ops:Array Oper} {Q:Exit→Act→World→Prop} {md:Region.Mode} {S:World→Prop} {z:Nat}
theorem qac.tk {n:Nat} {oi:Oper} {done:Array Bool} {a:Act} {w:World} {v:Value} (i:Nat) (hi:ops[i]? =some oi) (d:Nat) (hS:S w) (h1:∀w',S w'→(execOp a.eval oi).run P w'=.ok (.value v) w') (h2:qac P md ops Q S z n (done.setIfInBounds i true) (a.put (some d) v) w) (hd:oi.dst=some d:=by rfl) (hz:qto md ops done i z (qtn md ops i)=true:=by kernel_rfl) (hs:Region.noSelect ops=true:=by kernel_rfl) (hf:Region.free md ops done i=true:=by kernel_rfl) (hr:(Region.ready md ops done).contains i=true:=by kernel_rfl) (hQ:∀v c a w,Q (.panic c) (a.put oi.dst v) w→Q (.panic c) a w:=by exact fun _ _ _ _ h=>h) (hw:Region.wanted oi (yielded ops a.tmps)=true:=by rfl):qac P md ops Q S z (n+1) done a w:=qac.take (some d) hi hd hz hs hf hr hQ hw hS ⟨v,h1,h2⟩
theorem qac.stq {n:Nat} {o:Oper} {done:Array Bool} {a:Act} {w:World} (i:Nat) (ho:ops[i]? =some o) (h:∀K':Act→World→Prop,Shut (∀a w,S w→qac P md ops Q S z n (done.setIfInBounds i true) a w→K' a w)→if Region.wanted o (yielded ops a.tmps)=true then Oper.wp P o a w K' Q else K' (a.put o.dst undef) w) (hr:Region.ready md ops done=[i]:=by kernel_rfl):qac P md ops Q S z (n+1) done a w:=qac.step hr ho h
theorem qac.lst {n:Nat} {o:Oper} {done:Array Bool} {a:Act} {w:World} (ho:ops[z]? =some o) (h:∀K':Act→World→Prop,Shut (∀a w,Q .normal a w→K' a w)→if Region.wanted o (yielded ops a.tmps)=true then Oper.wp P o a w K' Q else K' (a.put o.dst undef) w) (hr:Region.ready md ops done=[z]:=by kernel_rfl) (hr2:Region.ready md ops (done.setIfInBounds z true)=[]:=by kernel_rfl) (hz:(done.setIfInBounds z true).getD z true=true:=by kernel_rfl):qac P md ops Q S z (n+1) done a w:=qac.last hr ho hr2 hz h
end
theorem Ya {α:Type _} (l:List α) (i:Nat) (a:α):l.toArray.setIfInBounds i a=(l.set i a).toArray:=List.setIfInBounds_toArray l i a
theorem Yb {α:Type _} {x:α} {xs:List α} {a:α}:(x::xs).set 0 a=a::xs:=rfl
theorem Yc {α:Type _} {x:α} {xs:List α} {i:Nat} {a:α}:(x::xs).set (i+1) a=x::xs.set i a:=rfl
theorem Yd {w:World} {b:Nat} {o:Obj} (h:w.heap[b]? =some o):b<w.heap.size:=lt_of_block h
theorem Ye (w:World) (g j:Nat) (cs:Array Value) (t:TypeId) (fr:Nat×Nat) (h:w.heap[g]? =some (.cells cs t fr)):w.cell? ⟨g,j,none⟩=cs[j]? :=cell_of_row w g j cs t fr h
theorem Yf (w:World) (g j:Nat) (cs:Array Value) (t:TypeId) (h:w.heap[g]? =some (.cells cs t)):w.frozen? ⟨g,j,none⟩=false:=frozen_of_row w g j cs t h
theorem Yg {P:Program} {fn:Func} {R:Ending→World→Prop} {a:Act} {w:World} {v:Value} (h:(results fn a.tmps).run P w=.ok v w) (hd:a.defers=[]) (hR:R (.returned v) w):bodyPost P fn R .ret a w:=bodyPost_ret h hd hR
theorem Yh (w:World) (o:Obj):(w.alloc o).heap[w.heap.size]? =some o:=heap_alloc_new w o
theorem Yi {n:Nat}:n≤n:=Nat.le_refl n
theorem Yj {B:Nat} {w:World}:Below B w w:=Below.refl B w
structure Tk where
 k:Int
 t:By
 n:Int
 a:Int
 b:Int
 p:Int
def tkV (x:Tk):Array Value:=#[.int .i64 x.k,.string ⟨x.t.toArray⟩,.int .i64 x.n,.int .i64 x.a,.int .i64 x.b,.int .i64 x.p]
def tkC (L:List Tk):List Value:=(L.map fun x=>(tkV x).toList).flatten
theorem qj5 (L:List Tk) (x:Tk):tkC (L++[x])=tkC L++(tkV x).toList:=by simp[tkC]
theorem Tryz.info40n:(Tryz.prog.info? 49).map (fun i=>(i.zero,i.size,i.bytes))=some (some (.agg #[.int .i64 0,.string ⟨#[]⟩,.int .i64 0,.int .i64 0,.int .i64 0,.int .i64 0]),6,56):=by kernel_rfl
theorem qmd (p base:Nat) (s0 tv s2 ad bv:Value) (fr:Int) (tk:List Tk) (x:Tk) (w:World) (hb:w.heap[p]? =some (.cells #[s0,tv,s2,.int .i64 fr,ad,bv] 89 (0,0))) (ht:w.ownsRow base 49 6 tv tk.length (tkC tk)) (hl:tk.length≤4294967296) (hbase:base≤w.heap.size):
 Calls Tryz.prog 64 #[.pointer (some ⟨p,0,none⟩),.agg (tkV x)] w fun e w'=>e=.returned (.tuple #[])∧(∃tv',w'.heap[p]? =some (.cells #[s0,tv',s2,.int .i64 fr,ad,bv] 89 (0,0))∧w'.ownsRow base 49 6 tv' (tk.length+1) (tkC (tk++[{ x with p:=fr }])))∧KpO 49 base p w w':=by
 obtain⟨i40,GJ,hz0,hz1,hz2⟩:=info_parts Tryz.info40n;obtain⟨ao,cp,hts,_⟩:=qad ht;subst hts;have hpl:=Yd hb;have hd:=Ye _ _ 3 _ _ _ hb;simp only[List.getElem?_toArray,List.getElem?_cons_succ,List.getElem?_cons_zero] at hd;have HB:=qaa hb;have HT:=qaa ht;clear hb ht;unfold tkV;go_enter Tryz.func64,Tryz.ntmps64;go_upto_region 2 with fail
 obtain⟨w2,hw2⟩:∃w2,w2=w.alloc (.cells #[.int .i64 x.k,.string ⟨x.t.toArray⟩,.int .i64 x.n,.int .i64 x.a,.int .i64 x.b,.int .i64 fr] 49):=⟨_,rfl⟩;have X2:Hid (Below w.heap.size w w2):=by unfold Hid;rw[hw2];exact al Yj _
 have B2:Hid (w2.heap[w.heap.size]? =some (.cells #[.int .i64 x.k,.string ⟨x.t.toArray⟩,.int .i64 x.n,.int .i64 x.a,.int .i64 x.b,.int .i64 fr] 49 (0,0))):=by unfold Hid;rw[hw2];exact Yh w _
 rw[←hw2];clear hw2 hd;have Mi:Hid (w2.heap[p]? =some (.cells #[s0,.slice ao tk.length cp,s2,.int .i64 fr,ad,bv] 89 (0,0))):=(X2.out.block p hpl).trans HB.out;obtain⟨bq,hbq⟩:∃bq,bq=w.heap.size:=⟨_,rfl⟩;rw[←hbq] at B2 ⊢;have Po:=qaa hbq;clear hbq;have Bq:Hid (∀k,(Value.slice ao tk.length cp).ownBlock=some k→k≠p∧k<bq∧base≤k∧∃c,w.heap[k]? =some (.cells c 49 (0,0))):=fun k hk=>by
  obtain⟨c,hc⟩:=qaw HT.out k hk;refine⟨fun e=>?_,by have:=Yd hc;have:=Po.out;omega,(World.ownsRow.lt HT.out k hk).1,c,hc⟩;rw[e,HB.out] at hc;injection hc with hc
  injection hc with _ hc _
  cases hc
 have HX:Hid (∀V,Below w2.heap.size w2 V→V.ownsRow base 49 6 (.slice ao tk.length cp) tk.length (tkC tk)):=fun V y=>own_below (own_below HT.out X2.out) y
 obtain⟨S,Gv⟩:∃S:World→Prop,Hid (∀V,S V↔V.heap[p]? =some (.cells #[s0,.slice ao tk.length cp,s2,.int .i64 fr,ad,bv] 89 (0,0))∧V.heap[bq]? =some (.cells #[.int .i64 x.k,.string ⟨x.t.toArray⟩,.int .i64 x.n,.int .i64 x.a,.int .i64 x.b,.int .i64 fr] 49 (0,0))):=⟨_,fun V=>Iff.rfl⟩;have GK:Hid (∀V,S V→V.cell? ⟨p,1,none⟩=some (.slice ao tk.length cp)∧V.cell? ⟨bq,0,none⟩=some (.int .i64 x.k)∧V.cell? ⟨bq,1,none⟩=some (.string ⟨x.t.toArray⟩)∧V.cell? ⟨bq,2,none⟩=some (.int .i64 x.n)∧V.cell? ⟨bq,3,none⟩=some (.int .i64 x.a)∧V.cell? ⟨bq,4,none⟩=some (.int .i64 x.b)∧V.cell? ⟨bq,5,none⟩=some (.int .i64 fr)):=fun V hV=>by
  obtain⟨h1,h2⟩:=(Gv.out V).1 hV;exact⟨by rw[Ye _ _ _ _ _ _ h1];rfl,by rw[Ye _ _ _ _ _ _ h2];rfl,by rw[Ye _ _ _ _ _ _ h2];rfl,by rw[Ye _ _ _ _ _ _ h2];rfl,by rw[Ye _ _ _ _ _ _ h2];rfl,by rw[Ye _ _ _ _ _ _ h2];rfl,by rw[Ye _ _ _ _ _ _ h2];rfl⟩
 have Bb:Hid (S w2.drew):=(Gv.out _).2 ⟨Mi.out,B2.out⟩;have XD:Hid (Below w2.heap.size w2 w2.drew):=Yj.drew;have Bg:Hid (∀V,Below w2.drew.heap.size w2.drew V→S V):=fun V y=>(Gv.out _).2 ⟨(y.block p (Yd Mi.out)).trans Mi.out,(y.block bq (Yd B2.out)).trans B2.out⟩
 have HOW:Hid ((w2.drew.alloc (.cells #[.int .i64 x.k,.string ⟨x.t.toArray⟩,.int .i64 x.n,.int .i64 x.a,.int .i64 x.b,.int .i64 fr] 49)).ownsRow base 49 6 (.slice ao tk.length cp) tk.length (tkC tk)):=HX.out _ (bt XD.out (al Yj _) Yi);have BN:Hid (∀(j:Nat) (u:Value),[Value.int .i64 x.k,.string ⟨x.t.toArray⟩,.int .i64 x.n,.int .i64 x.a,.int .i64 x.b,.int .i64 fr][j]? =some u→(w2.drew.alloc (.cells #[.int .i64 x.k,.string ⟨x.t.toArray⟩,.int .i64 x.n,.int .i64 x.a,.int .i64 x.b,.int .i64 fr] 49)).cell? ((⟨w2.drew.heap.size,0,none⟩:Addr).add j)=some u):=fun j u hu=>by
  have hB:=Yh w2.drew (.cells #[.int .i64 x.k,.string ⟨x.t.toArray⟩,.int .i64 x.n,.int .i64 x.a,.int .i64 x.b,.int .i64 fr] 49);rw[show(⟨w2.drew.heap.size,0,none⟩:Addr).add j=⟨w2.drew.heap.size,0+j,none⟩ by unfold Addr.add;split<;>simp_all,Ye _ _ _ _ _ _ hB];simpa using hu
 have Gw:Hid (base≤(w2.drew.alloc (.cells #[.int .i64 x.k,.string ⟨x.t.toArray⟩,.int .i64 x.n,.int .i64 x.a,.int .i64 x.b,.int .i64 fr] 49)).heap.size):=by
  have h1:=(al (Below.refl w2.drew.heap.size w2.drew) (.cells #[.int .i64 x.k,.string ⟨x.t.toArray⟩,.int .i64 x.n,.int .i64 x.a,.int .i64 x.b,.int .i64 fr] 49)).size;have h2:=X2.out.size;have h3:=XD.out.size;unfold Hid;omega
 have MJ:Hid (∀(g6 cap6:Nat) (w6:World),w6.ownsRow base 49 6 (.slice (some ⟨g6,0,none⟩) (tk.length+1) cap6) (tk.length+1) (tkC tk++[.int .i64 x.k,.string ⟨x.t.toArray⟩,.int .i64 x.n,.int .i64 x.a,.int .i64 x.b,.int .i64 fr])→(w2.drew.alloc (.cells #[.int .i64 x.k,.string ⟨x.t.toArray⟩,.int .i64 x.n,.int .i64 x.a,.int .i64 x.b,.int .i64 fr] 49)).grownBy w6 (Value.slice ao tk.length cp).ownBlock→S w6∧(w6.setCell ⟨p,1,none⟩ (.slice (some ⟨g6,0,none⟩) (tk.length+1) cap6)).heap[p]? =some (.cells #[s0,.slice (some ⟨g6,0,none⟩) (tk.length+1) cap6,s2,.int .i64 fr,ad,bv] 89 (0,0))∧(w6.setCell ⟨p,1,none⟩ (.slice (some ⟨g6,0,none⟩) (tk.length+1) cap6)).ownsRow base 49 6 (.slice (some ⟨g6,0,none⟩) (tk.length+1) cap6) (tk.length+1) (tkC (tk++[{ x with p:=fr }]))∧KpO 49 base p w (w6.setCell ⟨p,1,none⟩ (.slice (some ⟨g6,0,none⟩) (tk.length+1) cap6))∧w6.frozen? ⟨p,1,none⟩=false):=fun g6 cap6 w6 h1 h2=>by
  have xa:=al (Below.refl w2.drew.heap.size w2.drew) (.cells #[.int .i64 x.k,.string ⟨x.t.toArray⟩,.int .i64 x.n,.int .i64 x.a,.int .i64 x.b,.int .i64 fr] 49);obtain⟨s1,s2'⟩:=(Gv.out _).1 (Bg.out _ xa);have kg:=qae h2;have Mj:=(kg.block p (Yd s1) (fun e=>(Bq.out p e).1 rfl)).trans s1;have Pp:=(kg.block bq (Yd s2') (fun e=>by have:=(Bq.out bq e).2.1;omega)).trans s2';have Jw:=bt X2.out (bt XD.out xa Yi) Yi;have k6:KpO 49 base p w w6:=Kept.trans_new (F:=fun k=>k=p∨base≤k∧∃c f,w.heap[k]? =some (.cells c 49 f)) (Kept.of_below Jw) kg (fun i hi hG=>.inr ⟨(Bq.out i hG).2.2.1,_,_,(Bq.out i hG).2.2.2.choose_spec⟩);refine⟨(Gv.out _).2 ⟨Mj,Pp⟩,by have:=qab Mj 1 (.slice (some ⟨g6,0,none⟩) (tk.length+1) cap6);exact this,?_,Kept.setCell k6 (p:=⟨p,1,none⟩) (.inl rfl) _,Yf _ _ _ _ _ Mj⟩;rw[qj5];refine qai (F:=fun k=>k=p) h1 ((Kept.refl (fun k=>k=p) w6).setCell (p:=⟨p,1,none⟩) rfl _) (fun k hk e=>?_);obtain⟨c,hc⟩:=qaw h1 k hk;rw[e,Mj] at hc;injection hc with hc
  injection hc with _ hc _
  cases hc
 clear Mi B2 X2 XD HX HB HT;refine qam (S:=S) 10 (by kernel_rfl) ?_;generalize w2.drew=wd at *;refine qac.tk 0 rfl 9 Bb.out (fun a b=>by obtain⟨_,_,_,_,_,_,_⟩:=GK.out a b;go_simp;first|done|rfl) ?_
 try simp only[Act.put,Ya,Yb,Yc]
 refine qac.tk 1 rfl 10 Bb.out (fun a b=>by obtain⟨_,_,_,_,_,_,_⟩:=GK.out a b;go_simp;first|done|rfl) ?_
 try simp only[Act.put,Ya,Yb,Yc]
 refine qac.tk 2 rfl 11 Bb.out (fun a b=>by obtain⟨_,_,_,_,_,_,_⟩:=GK.out a b;go_simp;first|done|rfl) ?_
 try simp only[Act.put,Ya,Yb,Yc]
 refine qac.tk 3 rfl 12 Bb.out (fun a b=>by obtain⟨_,_,_,_,_,_,_⟩:=GK.out a b;go_simp;first|done|rfl) ?_
 try simp only[Act.put,Ya,Yb,Yc]
 refine qac.tk 4 rfl 13 Bb.out (fun a b=>by obtain⟨_,_,_,_,_,_,_⟩:=GK.out a b;go_simp;first|done|rfl) ?_
 try simp only[Act.put,Ya,Yb,Yc]
 refine qac.tk 5 rfl 14 Bb.out (fun a b=>by obtain⟨_,_,_,_,_,_,_⟩:=GK.out a b;go_simp;first|done|rfl) ?_
 try simp only[Act.put,Ya,Yb,Yc]
 refine qac.stq 6 rfl fun K hK=>?_
 go_simp;refine hK _ _ (Bg.out _ (al Yj _)) ?_;clear hK K;refine qac.stq 7 rfl fun K hK=>?_
 refine step_append_lies _ (by rfl) (.tmp 13) (.tmp 15) 43 (by rfl) base 49 i40 (.agg #[.int .i64 0,.string ⟨#[]⟩,.int .i64 0,.int .i64 0,.int .i64 0,.int .i64 0]) 6 56 Tryz.underlying43 GJ hz0 hz1 hz2 rfl (by decide) _ tk.length (tkC tk) (by rfl) HOW.out ⟨wd.heap.size,0,none⟩ 1 1 [.int .i64 x.k,.string ⟨x.t.toArray⟩,.int .i64 x.n,.int .i64 x.a,.int .i64 x.b,.int .i64 fr] (by rfl) (by rfl) BN.out (by simp[Value.oneCell']) (by decide) (by unfold maxLen;omega) (by omega) Gw.out _ rfl ?_;intro g6 cap6 w6 h1 h2 h3 h4;obtain⟨f1,f2,f3,f4,f5⟩:=MJ.out g6 cap6 w6 h1 h2;refine hK _ _ f1 ?_;clear hK K h1 h2 h3 h4;have Mk:=qaa f1;have F2:=qaa f2;have F3:=qaa f3;have F4:=qaa f4;clear f1 f2 f3 f4;refine qac.tk 8 rfl 17 Mk.out (fun a b=>by obtain⟨_,_,_,_,_,_,_⟩:=GK.out a b;go_simp;first|done|rfl) ?_
 try simp only[Act.put,Ya]
 refine qac.tk 9 rfl 18 Mk.out (fun a b=>by obtain⟨_,_,_,_,_,_,_⟩:=GK.out a b;go_simp;first|done|rfl) ?_
 try simp only[Act.put]
 obtain⟨z1,-⟩:=GK.out _ Mk.out;refine qac.lst rfl fun K hK=>?_
 go_simp;refine hK _ _ ?_;clear hK K;go_wp2;go_end0;exact⟨rfl,⟨_,F2.out,F3.out⟩,F4.out⟩
end Go.Proofs.YtlmhofjiobmodaaGreatDoor
namespace Go.Proofs.YtlmhofjiobmodaaGreatDoor
inductive CT where
 |mk (k:Int) (nm tx:By) (pre sp:List (Int×Int)) (ns:List By) (kids:List CT) (p:Int)
namespace CT
def k:CT→Int|mk k _ _ _ _ _ _ _=>k
def nm:CT→By|mk _ x _ _ _ _ _ _=>x
def tx:CT→By|mk _ _ x _ _ _ _ _=>x
def pre:CT→List (Int×Int)|mk _ _ _ x _ _ _ _=>x
def sp:CT→List (Int×Int)|mk _ _ _ _ x _ _ _=>x
def ns:CT→List By|mk _ _ _ _ _ x _ _=>x
def kids:CT→List CT|mk _ _ _ _ _ _ x _=>x
def p:CT→Int|mk _ _ _ _ _ _ _ x=>x
end CT
def dpt:CT→Nat
 |.mk _ _ _ _ _ _ kids _=>dptL kids+1
where dptL:List CT→Nat
 |[]=>0
 |c::l=>max (dpt c) (dptL l)
inductive PR (α:Type) where
 |ok (a:α) (i:Nat)
 |bad (e p:Int)
 |out
def PR.bind {α β:Type} (x:PR α) (f:α→Nat→PR β):PR β:=match x with
 |.ok a i=>f a i
 |.bad e p=>.bad e p
 |.out=>.out
def z0:Tk:=⟨0,[],0,0,0,0⟩
section
variable (Ts:List Tk)
def tok (i:Nat):Tk:=Ts.getD i z0
def isT (kind:Int) (text:By) (i:Nat):Bool:=(tok Ts i).k==kind&&(tok Ts i).t==text
def qa9 (kind:Int) (i:Nat):PR Tk:=if (tok Ts i).k=kind then .ok (tok Ts i) (i+1) else .bad 90 (tok Ts i).p
def qak (kind:Int) (text:By) (i:Nat):PR Unit:=if isT Ts kind text i=true then .ok () (i+1) else .bad 90 (tok Ts i).p
end
def wOr:By:=[111,114]
def qeq:By:=[97,110,100]
def qg2:By:=[110,111,116]
def qg3:By:=[116,114,117,101]
def qd7:By:=[102,97,108,115,101]
def qme:By:=[97,100,100,114]
def qg4:By:=[112,111,114,116]
def qfl:By:=[109,101,116,104,111,100]
def qmf:By:=[112,97,116,104]
def qfm:By:=[104,101,97,100,101,114]
def qsg:By:=[104,97,115]
def wIn:By:=[105,110]
def qma:By:=[108,101,116]
def qd8:By:=[97,108,108,111,119]
def qg5:By:=[100,101,110,121]
def qg6:By:=[119,104,101,110]
def qeu (k:Nat):By:=match k with
 |1=>qg3|2=>qd7|7=>qme|8=>qg4|9=>qfl|10=>qmf|11=>qfm|12=>qsg|_=>[]
def qe8 (k:Nat):By:=match k with
 |1=>qma|2=>qd8|3=>qg5|_=>[]
section
variable (Ts:List Tk)
def qbu (word:Nat→By) (i:Nat):Nat→Nat→Nat
 |0,_=>0
 |n+1,k=>if isT Ts 1 (word k) i=true then k else qbu word i n (k+1)
def qbd (i:Nat):Nat:=qbu Ts qeu i 12 1
def qas (i:Nat):Nat:=qbu Ts qe8 i 3 1
def qe3 (i:Nat):Bool:=(tok Ts i).k==2||isT Ts 7 [40] i||isT Ts 1 qg2 i||qbd Ts i !=0
def qb3 (kind:Int) (c:CT) (i:Nat):PR CT:=(qa9 Ts kind i).bind fun t j=>
 if kind=5 then .ok (.mk c.k c.nm c.tx (c.pre++[(t.a,t.b)]) c.sp c.ns c.kids c.p) j
 else if kind=4 then
  if isT Ts 7 [45] j=true then(qa9 Ts 4 (j+1)).bind fun u l=>.ok (.mk c.k c.nm c.tx c.pre (c.sp++[(t.n,u.n)]) c.ns c.kids c.p) l
  else .ok (.mk c.k c.nm c.tx c.pre (c.sp++[(t.n,t.n)]) c.ns c.kids c.p) j
 else .ok (.mk c.k c.nm c.tx c.pre c.sp (c.ns++[t.t]) c.kids c.p) j
def qba (kind:Int):Nat→Nat→CT→Nat→PR CT
 |0,_,_,_=>.out
 |f+1,parts,c,i=>
  if isT Ts 7 [44] i=true then
   if parts=32∧(tok Ts (i+1)).k=kind then .bad 92 (tok Ts (i+1)).p
   else(qb3 Ts kind c (i+1)).bind fun c' j=>qba kind f (parts+1) c' j
  else(qak Ts 7 [125] i).bind fun _ j=>.ok c j
def qbp (f:Nat) (kind:Int) (c:CT) (i:Nat):PR CT:=(qak Ts 1 wIn i).bind fun _ j=>(qak Ts 7 [123] j).bind fun _ l=>(qb3 Ts kind c l).bind fun c' m=>qba Ts kind f 1 c' m
def qa0 (f:Nat) (c:CT) (i:Nat):PR CT:=
 if c.k=7 then qbp Ts f 5 c i
 else if c.k=8 then qbp Ts f 4 c i
 else if c.k=9 then qbp Ts f 3 c i
 else if c.k=10 then(qak Ts 7 [126] i).bind fun _ j=>(qa9 Ts 6 j).bind fun t l=>.ok (.mk c.k c.nm t.t c.pre c.sp c.ns c.kids c.p) l
 else if c.k=11 then(qa9 Ts 6 i).bind fun u h=>(qak Ts 7 [126] h).bind fun _ j=>(qa9 Ts 6 j).bind fun t l=>.ok (.mk c.k u.t t.t c.pre c.sp c.ns c.kids c.p) l
 else if c.k=12 then(qa9 Ts 6 i).bind fun u h=>.ok (.mk c.k u.t c.tx c.pre c.sp c.ns c.kids c.p) h
 else .ok c i
def qbl (c:CT) (i:Nat):PR CT:=if 16<dpt c then .bad 91 c.p else .ok c i
def rowP (part:Nat→PR CT) (word:By) (kind:Int):Nat→List CT→Int→Nat→PR CT
 |0,_,_,_=>.out
 |f+1,ks,p,i=>
  if isT Ts 1 word i=true then
   if ks.length=32∧qe3 Ts (i+1)=true then .bad 92 (tok Ts (i+1)).p
   else(part (i+1)).bind fun c j=>rowP part word kind f (ks++[c]) p j
  else qbl (.mk kind [] [] [] [] [] ks p) i
def qaf:Nat→Nat→Nat→PR CT
 |0,_,_=>.out
 |f+1,0,i=>(qaf f 1 i).bind fun c j=>if isT Ts 1 wOr j=true then rowP Ts (qaf f 1) wOr 6 f [c] c.p j else .ok c j
 |f+1,1,i=>(qaf f 2 i).bind fun c j=>if isT Ts 1 qeq j=true then rowP Ts (qaf f 2) qeq 5 f [c] c.p j else .ok c j
 |f+1,2,i=>if isT Ts 1 qg2 i=true then(qaf f 2 (i+1)).bind fun c j=>qbl (.mk 4 [] [] [] [] [] [c] (tok Ts i).p) j else qaf f 3 i
 |f+1,_,i=>
  if isT Ts 7 [40] i=true then(qaf f 0 (i+1)).bind fun c j=>(qak Ts 7 [41] j).bind fun _ l=>.ok c l
  else if (tok Ts i).k=2 then .ok (.mk 3 (tok Ts i).t [] [] [] [] [] (tok Ts i).p) (i+1)
  else if qbd Ts i=0 then .bad 90 (tok Ts i).p
  else qa0 Ts f (.mk (qbd Ts i:Nat) [] [] [] [] [] [] (tok Ts i).p) (i+1)
theorem qdu (f i:Nat):qaf Ts (f+1) 0 i=(qaf Ts f 1 i).bind fun c j=>if isT Ts 1 wOr j=true then rowP Ts (qaf Ts f 1) wOr 6 f [c] c.p j else .ok c j:=rfl
theorem qd9 (f i:Nat):qaf Ts (f+1) 1 i=(qaf Ts f 2 i).bind fun c j=>if isT Ts 1 qeq j=true then rowP Ts (qaf Ts f 2) qeq 5 f [c] c.p j else .ok c j:=rfl
theorem qdg (f i:Nat):qaf Ts (f+1) 2 i=if isT Ts 1 qg2 i=true then(qaf Ts f 2 (i+1)).bind fun c j=>qbl (.mk 4 [] [] [] [] [] [c] (tok Ts i).p) j else qaf Ts f 3 i:=rfl
theorem qc7 (f i:Nat):qaf Ts (f+1) 3 i=if isT Ts 7 [40] i=true then(qaf Ts f 0 (i+1)).bind fun c j=>(qak Ts 7 [41] j).bind fun _ l=>.ok c l
 else if (tok Ts i).k=2 then .ok (.mk 3 (tok Ts i).t [] [] [] [] [] (tok Ts i).p) (i+1)
 else if qbd Ts i=0 then .bad 90 (tok Ts i).p
 else qa0 Ts f (.mk (qbd Ts i:Nat) [] [] [] [] [] [] (tok Ts i).p) (i+1):=rfl
structure IT where
 k:Int
 nm:By
 c:CT
 p:Int
def qdx (f kind:Nat) (i:Nat):PR IT:=(qa9 Ts 1 i).bind fun t j=>(qa9 Ts 2 j).bind fun u l=>(if kind=1 then qak Ts 7 [61] l else qak Ts 1 qg6 l).bind fun _ m=>(qaf Ts f 0 m).bind fun c n=>(qak Ts 7 [59] n).bind fun _ o=>.ok ⟨kind,u.t,c,t.p⟩ o
def qg7:Nat→List IT→Nat→PR (List IT)
 |0,_,_=>.out
 |f+1,L,i=>if (tok Ts i).k=8 then .ok L i
  else if qas Ts i=0 then .bad 90 (tok Ts i).p
  else if L.length=100 then .bad 92 (tok Ts i).p
  else(qdx Ts f (qas Ts i) i).bind fun x j=>qg7 f (L++[x]) j
end
end Go.Proofs.YtlmhofjiobmodaaGreatDoor

