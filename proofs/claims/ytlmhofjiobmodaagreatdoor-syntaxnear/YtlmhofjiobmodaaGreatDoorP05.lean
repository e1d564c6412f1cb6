/-
  Contracts of strings.Clone, strings.ContainsRune and strings.ContainsAny at this program, laid off the library by its own tool. Conditions: as each says.
-/
import Derived.Shelf.LaysM
import Derived.Shelf.Strconv.Clone
import Derived.Shelf.Strings.Runes
import Derived.Shelf.Strings.IndexAnyAll
import Derived.Test.YtlmhofjiobmodaaGreatDoorProg
import Derived.Test.YtlmhofjiobmodaaGreatDoorP04
import Derived.Deep.RegionWith
import Derived.Lib.AppendStr
import Derived.Test.YtlmhofjiobmodaaGreatDoorP03
set_option maxRecDepth 100000
set_option maxHeartbeats 16000000
namespace Go.Proofs
open Go.Shelf
def Tryz.laysM316_ren:Go.Shelf.Ren:=⟨fun|316=>128|n=>n,fun|9=>9|3=>3|4=>4|37=>64|0=>0|127=>140|5=>5|n=>n,fun|n=>n⟩
theorem Tryz.laysM316:Go.Proofs.LaysM.n316 Tryz.prog Tryz.laysM316_ren:={
 mixed:=by kernel_rfl
 f316:=Tryz.func128.trans (congrArg some (by kernel_rfl))
 t0:=Tryz.underlying0
 a0:=Tryz.isAgg0
 z0:=Tryz.sizeOf0
 v0:=Tryz.zeroValue0
 t3:=Tryz.underlying3
 a3:=Tryz.isAgg3
 z3:=Tryz.sizeOf3
 v3:=Tryz.zeroValue3
 t4:=Tryz.underlying4
 a4:=Tryz.isAgg4
 z4:=Tryz.sizeOf4
 v4:=Tryz.zeroValue4
 t9:=Tryz.underlying9
 a9:=Tryz.isAgg9
 z9:=Tryz.sizeOf9
 v9:=Tryz.zeroValue9
 t37:=Tryz.underlying64
 a37:=Tryz.isAgg64
 z37:=Tryz.sizeOf64
 v37:=Tryz.zeroValue64
 t127:=Tryz.underlying140
 a127:=Tryz.isAgg140
 z127:=Tryz.sizeOf140
 v127:=Tryz.zeroValue140
 t5:=Tryz.underlying5
 a5:=Tryz.isAgg5
 z5:=Tryz.sizeOf5
 v5:=Tryz.zeroValue5
 i0:=by kernel_rfl
 i3:=by kernel_rfl
 i4:=by kernel_rfl
 i5:=by kernel_rfl
 i9:=by kernel_rfl
 i37:=by kernel_rfl
 i127:=by kernel_rfl }
open Go.RowKit in
theorem Tryz.stringslite_Clone (s:ByteArray) (w:World) (hlim:s.size≤281474976710656):
 Calls Tryz.prog 128 #[.string s] w fun e w'=>e=.returned (.string s)∧Below w.heap.size w w':=Any.stringslite_Clone Tryz.laysM316 s w hlim
def Tryz.lays151_ren:Go.Shelf.Ren:=⟨fun|151=>133|152=>155|137=>187|119=>188|224=>189|225=>190|217=>205|266=>221|n=>n,fun|9=>9|21=>21|4=>4|3=>3|5=>5|0=>0|46=>112|n=>n,fun|n=>n⟩
theorem Tryz.lays151:Go.Proofs.Lays.n151 Tryz.prog Tryz.lays151_ren:={
 mixed:=by kernel_rfl
 f119:=Tryz.func188.trans (congrArg some (by kernel_rfl))
 f137:=Tryz.func187.trans (congrArg some (by kernel_rfl))
 f151:=Tryz.func133.trans (congrArg some (by kernel_rfl))
 f152:=Tryz.func155.trans (congrArg some (by kernel_rfl))
 f217:=Tryz.func205.trans (congrArg some (by kernel_rfl))
 f224:=Tryz.func189.trans (congrArg some (by kernel_rfl))
 f225:=Tryz.func190.trans (congrArg some (by kernel_rfl))
 f266:=Tryz.func221.trans (congrArg some (by kernel_rfl))
 t0:=Tryz.underlying0
 a0:=Tryz.isAgg0
 z0:=Tryz.sizeOf0
 v0:=Tryz.zeroValue0
 t3:=Tryz.underlying3
 a3:=Tryz.isAgg3
 z3:=Tryz.sizeOf3
 v3:=Tryz.zeroValue3
 t4:=Tryz.underlying4
 a4:=Tryz.isAgg4
 z4:=Tryz.sizeOf4
 v4:=Tryz.zeroValue4
 t5:=Tryz.underlying5
 a5:=Tryz.isAgg5
 z5:=Tryz.sizeOf5
 v5:=Tryz.zeroValue5
 t9:=Tryz.underlying9
 a9:=Tryz.isAgg9
 z9:=Tryz.sizeOf9
 v9:=Tryz.zeroValue9
 t21:=Tryz.underlying21
 a21:=Tryz.isAgg21
 z21:=Tryz.sizeOf21
 v21:=Tryz.zeroValue21
 t46:=Tryz.underlying112
 a46:=Tryz.isAgg112
 z46:=Tryz.sizeOf112
 v46:=Tryz.zeroValue112 }
open Go.RowKit Go.Lib in
theorem Tryz.strings_ContainsRune_ascii (s:ByteArray) (r:Int) (w:World) (h0:0≤r) (h1:r<128):
 Calls Tryz.prog 133 #[.string s,.int .i32 r] w fun e w'=>e=.returned (.bool (decide (0≤Lib.indexByte s.data.toList r.toNat.toUInt8)))∧w'=w:=Any.strings_ContainsRune_ascii Tryz.lays151 s r w h0 h1
def Tryz.lays150_ren:Go.Shelf.Ren:=⟨fun|150=>98|153=>130|152=>155|226=>156|227=>157|228=>158|137=>187|119=>188|224=>189|225=>190|217=>205|266=>221|n=>n,fun|9=>9|4=>4|3=>3|5=>5|21=>21|117=>189|116=>188|0=>0|46=>112|124=>208|n=>n,fun|n=>n⟩
theorem Tryz.lays150:Go.Proofs.Lays.n150 Tryz.prog Tryz.lays150_ren:={
 mixed:=by kernel_rfl
 f119:=Tryz.func188.trans (congrArg some (by kernel_rfl))
 f137:=Tryz.func187.trans (congrArg some (by kernel_rfl))
 f150:=Tryz.func98.trans (congrArg some (by kernel_rfl))
 f152:=Tryz.func155.trans (congrArg some (by kernel_rfl))
 f153:=Tryz.func130.trans (congrArg some (by kernel_rfl))
 f217:=Tryz.func205.trans (congrArg some (by kernel_rfl))
 f224:=Tryz.func189.trans (congrArg some (by kernel_rfl))
 f225:=Tryz.func190.trans (congrArg some (by kernel_rfl))
 f226:=Tryz.func156.trans (congrArg some (by kernel_rfl))
 f227:=Tryz.func157.trans (congrArg some (by kernel_rfl))
 f228:=Tryz.func158.trans (congrArg some (by kernel_rfl))
 f266:=Tryz.func221.trans (congrArg some (by kernel_rfl))
 t0:=Tryz.underlying0
 a0:=Tryz.isAgg0
 z0:=Tryz.sizeOf0
 v0:=Tryz.zeroValue0
 t3:=Tryz.underlying3
 a3:=Tryz.isAgg3
 z3:=Tryz.sizeOf3
 v3:=Tryz.zeroValue3
 t4:=Tryz.underlying4
 a4:=Tryz.isAgg4
 z4:=Tryz.sizeOf4
 v4:=Tryz.zeroValue4
 t5:=Tryz.underlying5
 a5:=Tryz.isAgg5
 z5:=Tryz.sizeOf5
 v5:=Tryz.zeroValue5
 t9:=Tryz.underlying9
 a9:=Tryz.isAgg9
 z9:=Tryz.sizeOf9
 v9:=Tryz.zeroValue9
 t21:=Tryz.underlying21
 a21:=Tryz.isAgg21
 z21:=Tryz.sizeOf21
 v21:=Tryz.zeroValue21
 t46:=Tryz.underlying112
 a46:=Tryz.isAgg112
 z46:=Tryz.sizeOf112
 v46:=Tryz.zeroValue112
 t116:=Tryz.underlying188
 a116:=Tryz.isAgg188
 z116:=Tryz.sizeOf188
 t117:=Tryz.underlying189
 a117:=Tryz.isAgg189
 z117:=Tryz.sizeOf189
 v117:=Tryz.zeroValue189
 t124:=Tryz.underlying208
 a124:=Tryz.isAgg208
 z124:=Tryz.sizeOf208
 v124:=Tryz.zeroValue208 }
open Go.RowKit Go.Lib in
theorem Tryz.strings_ContainsAny_laid (s chars:ByteArray) (w:World) (hs:s.size<4294967281) (hcs:chars.size<4294967281) (has:∀(j:Nat) b,s.data.toList[j]? =some b→b.toNat<128) (hac:∀(j:Nat) b,chars.data.toList[j]? =some b→b.toNat<128):
 Calls Tryz.prog 98 #[.string s,.string chars] w fun e w'=>e=.returned (.bool (Lib.containsAny s.data.toList chars.data.toList))∧Below w.heap.size w w':=Any.strings_ContainsAny_laid Tryz.lays150 (by kernel_rfl) s chars w hs hcs has hac
end Go.Proofs
namespace Go.Proofs.YtlmhofjiobmodaaGreatDoor
open Go.RowKit Go.Lib
def qbm:By:=[123,125,40,41,44,59,61,126,45]
def sgB (r:Int):Bool:=decide (r=123)||decide (r=125)||decide (r=40)||decide (r=41)||decide (r=44)||decide (r=59)||decide (r=61)||decide (r=126)||decide (r=45)
theorem qsj:∀c:Fin 128,decide (0≤Lib.indexByte qbm (((c.val:Nat):Int).toNat.toUInt8))=sgB (c.val:Int):=by decide+kernel
theorem qk7 (r:Int) (h0:0≤r) (h1:r<128) (w:World):Calls Tryz.prog 102 #[.int .i32 r] w fun e w'=>e=.returned (.bool (sgB r))∧w'=w:=by
 have HC:=qaa (Tryz.strings_ContainsRune_ascii ⟨#[123,125,40,41,44,59,61,126,45]⟩ r w h0 h1);have e:decide (0≤Lib.indexByte qbm r.toNat.toUInt8)=sgB r:=by
  have:=qsj ⟨r.toNat,by omega⟩;rw[show((r.toNat:Nat):Int)=r by omega] at this;exact this
 have BH:Hid (Calls Tryz.prog 133 #[.string ⟨#[123,125,40,41,44,59,61,126,45]⟩,.int .i32 r] w fun e w'=>e=.returned (.bool (sgB r))∧w'=w):=by rw[←e];exact HC
 clear HC e;go_enter Tryz.func102,Tryz.ntmps102;go_wp2_with (go_at_call 133;refine BH.out.mono ?_;rintro e wz ⟨rfl,Ba⟩;have Ba:=Ba.symm;subst Ba);go_ret;exact⟨rfl,rfl⟩
def qag (x:SS) (q r:Int):Int×SS:=
 if blB r=true then(0,{ x with fr:=q,st:=0 })
 else if r=35 then(0,{ x with fr:=q,st:=1 })
 else if smB r=true then(0,{ x with fr:=q,st:=2 })
 else if grB r=true then(0,{ x with fr:=q,st:=3 })
 else if dgB r=true then(0,{ x with fr:=q,st:=4 })
 else if r=34 then(0,{ x with fr:=q,st:=5 })
 else if sgB r=true then(0,{ x with fr:=q,st:=0,tk:=x.tk++[⟨7,[rB r],0,0,0,q⟩] })
 else(80,{ x with fr:=q,st:=0 })
section
variable {w:World} {base p:Nat} {s:By} {x:SS}
theorem qmi (h:ScA w base p s x) (q r:Int) (h0:0≤r) (h1:r<128) (hb:base≤w.heap.size) (hl:x.tk.length≤4294967296):
 Calls Tryz.prog 63 #[.pointer (some ⟨p,0,none⟩),.int .i64 q,.int .i32 r] w fun e w'=>ScE w base p s (qag x q r) e w':=by
 obtain⟨tv,ad,bv,h⟩:=h;obtain⟨c0,c2,c3,f2,f3⟩:=h.cells;obtain⟨s1,k1⟩:=h.setFr q;obtain⟨s2,k2⟩:=s1.setSt 0;have K2:=qaa (k1.trans k2);have S2:=qaa s2;have H1:=qaa (fun W=>qfg r W);have H2:=qaa (fun W=>qcm r W);have H3:=qaa (fun W=>qd1 r W);have H4:=qaa (fun W=>qd2 r W);have H5:=qaa (fun W=>qk7 r h0 h1 W);clear h s1 s2 k1 k2;go_enter Tryz.func63,Tryz.ntmps63;go_upto_region 4 with fail
 obtain⟨w2,hw2⟩:∃w2,w2=(w.setCell ⟨p,3,none⟩ (.int .i64 q)).setCell ⟨p,2,none⟩ (.int .i64 0):=⟨_,rfl⟩;rw[←hw2] at S2 K2 ⊢;clear hw2 c0 c2 c3 f2 f3;obtain⟨d0,d2,d3,e2,e3⟩:=S2.out.cells;have HS:=qaa K2.out.size;by_cases hbl:blB r=true
 ·rw[hbl] at H1
  have HM:Hid (qag x q r=(0,{ x with fr:=q,st:=0 })):=by unfold Hid qag;rw[if_pos hbl]
  clear hbl;go_wp2_with (first|(go_at_call 101;refine(H1.out _).mono ?_;rintro e wz ⟨rfl,Ba⟩;have Ba:=Ba.symm;subst Ba)|(go_at_call 92;refine(H2.out _).mono ?_;rintro e wz ⟨rfl,Ba⟩;have Ba:=Ba.symm;subst Ba)|(go_at_call 94;refine(H3.out _).mono ?_;rintro e wz ⟨rfl,Ba⟩;have Ba:=Ba.symm;subst Ba)|(go_at_call 93;refine(H4.out _).mono ?_;rintro e wz ⟨rfl,Ba⟩;have Ba:=Ba.symm;subst Ba)|(go_at_call 102;refine(H5.out _).mono ?_;rintro e wz ⟨rfl,Ba⟩;have Ba:=Ba.symm;subst Ba));go_ret;rw[HM.out];exact⟨rfl,⟨_,_,_,S2.out⟩,K2.out,HS.out⟩
 ·have Et:blB r=false:=by simpa using hbl
  rw[Et] at H1;by_cases EG:r=35
  ·have HM:Hid (qag x q r=(0,{ x with fr:=q,st:=1 })):=by unfold Hid qag;rw[if_neg hbl,if_pos EG]
   subst EG;clear hbl Et;go_wp2_with (first|(go_at_call 101;refine(H1.out _).mono ?_;rintro e wz ⟨rfl,Ba⟩;have Ba:=Ba.symm;subst Ba)|(go_at_call 92;refine(H2.out _).mono ?_;rintro e wz ⟨rfl,Ba⟩;have Ba:=Ba.symm;subst Ba)|(go_at_call 94;refine(H3.out _).mono ?_;rintro e wz ⟨rfl,Ba⟩;have Ba:=Ba.symm;subst Ba)|(go_at_call 93;refine(H4.out _).mono ?_;rintro e wz ⟨rfl,Ba⟩;have Ba:=Ba.symm;subst Ba)|(go_at_call 102;refine(H5.out _).mono ?_;rintro e wz ⟨rfl,Ba⟩;have Ba:=Ba.symm;subst Ba));go_ret;rw[HM.out];obtain⟨s4,k4⟩:=S2.out.setSt 1;exact⟨rfl,⟨_,_,_,s4⟩,K2.out.trans k4,Nat.le_trans HS.out k4.size⟩
  ·have e35:(r==35)=false:=by simp[EG]
   by_cases hsm:smB r=true
   ·rw[hsm] at H2
    have HM:Hid (qag x q r=(0,{ x with fr:=q,st:=2 })):=by unfold Hid qag;rw[if_neg hbl,if_neg EG,if_pos hsm]
    clear hbl Et hsm;go_wp2_with (first|(go_at_call 101;refine(H1.out _).mono ?_;rintro e wz ⟨rfl,Ba⟩;have Ba:=Ba.symm;subst Ba)|(go_at_call 92;refine(H2.out _).mono ?_;rintro e wz ⟨rfl,Ba⟩;have Ba:=Ba.symm;subst Ba)|(go_at_call 94;refine(H3.out _).mono ?_;rintro e wz ⟨rfl,Ba⟩;have Ba:=Ba.symm;subst Ba)|(go_at_call 93;refine(H4.out _).mono ?_;rintro e wz ⟨rfl,Ba⟩;have Ba:=Ba.symm;subst Ba)|(go_at_call 102;refine(H5.out _).mono ?_;rintro e wz ⟨rfl,Ba⟩;have Ba:=Ba.symm;subst Ba));go_ret;rw[HM.out];obtain⟨s4,k4⟩:=S2.out.setSt 2;exact⟨rfl,⟨_,_,_,s4⟩,K2.out.trans k4,Nat.le_trans HS.out k4.size⟩
   ·have Em:smB r=false:=by simpa using hsm
    rw[Em] at H2;by_cases hgr:grB r=true
    ·rw[hgr] at H3
     have HM:Hid (qag x q r=(0,{ x with fr:=q,st:=3 })):=by unfold Hid qag;rw[if_neg hbl,if_neg EG,if_neg hsm,if_pos hgr]
     clear hbl Et hsm Em hgr;go_wp2_with (first|(go_at_call 101;refine(H1.out _).mono ?_;rintro e wz ⟨rfl,Ba⟩;have Ba:=Ba.symm;subst Ba)|(go_at_call 92;refine(H2.out _).mono ?_;rintro e wz ⟨rfl,Ba⟩;have Ba:=Ba.symm;subst Ba)|(go_at_call 94;refine(H3.out _).mono ?_;rintro e wz ⟨rfl,Ba⟩;have Ba:=Ba.symm;subst Ba)|(go_at_call 93;refine(H4.out _).mono ?_;rintro e wz ⟨rfl,Ba⟩;have Ba:=Ba.symm;subst Ba)|(go_at_call 102;refine(H5.out _).mono ?_;rintro e wz ⟨rfl,Ba⟩;have Ba:=Ba.symm;subst Ba));go_ret;rw[HM.out];obtain⟨s4,k4⟩:=S2.out.setSt 3;exact⟨rfl,⟨_,_,_,s4⟩,K2.out.trans k4,Nat.le_trans HS.out k4.size⟩
    ·have EB:grB r=false:=by simpa using hgr
     rw[EB] at H3;by_cases hdg:dgB r=true
     ·rw[hdg] at H4
      have HM:Hid (qag x q r=(0,{ x with fr:=q,st:=4 })):=by unfold Hid qag;rw[if_neg hbl,if_neg EG,if_neg hsm,if_neg hgr,if_pos hdg]
      clear hbl Et hsm Em hgr EB hdg;go_wp2_with (first|(go_at_call 101;refine(H1.out _).mono ?_;rintro e wz ⟨rfl,Ba⟩;have Ba:=Ba.symm;subst Ba)|(go_at_call 92;refine(H2.out _).mono ?_;rintro e wz ⟨rfl,Ba⟩;have Ba:=Ba.symm;subst Ba)|(go_at_call 94;refine(H3.out _).mono ?_;rintro e wz ⟨rfl,Ba⟩;have Ba:=Ba.symm;subst Ba)|(go_at_call 93;refine(H4.out _).mono ?_;rintro e wz ⟨rfl,Ba⟩;have Ba:=Ba.symm;subst Ba)|(go_at_call 102;refine(H5.out _).mono ?_;rintro e wz ⟨rfl,Ba⟩;have Ba:=Ba.symm;subst Ba));go_ret;rw[HM.out];obtain⟨s4,k4⟩:=S2.out.setSt 4;exact⟨rfl,⟨_,_,_,s4⟩,K2.out.trans k4,Nat.le_trans HS.out k4.size⟩
     ·have EL:dgB r=false:=by simpa using hdg
      rw[EL] at H4;by_cases BZ:r=34
      ·have HM:Hid (qag x q r=(0,{ x with fr:=q,st:=5 })):=by unfold Hid qag;rw[if_neg hbl,if_neg EG,if_neg hsm,if_neg hgr,if_neg hdg,if_pos BZ]
       subst BZ;clear hbl Et hsm Em hgr EB hdg EL;go_wp2_with (first|(go_at_call 101;refine(H1.out _).mono ?_;rintro e wz ⟨rfl,Ba⟩;have Ba:=Ba.symm;subst Ba)|(go_at_call 92;refine(H2.out _).mono ?_;rintro e wz ⟨rfl,Ba⟩;have Ba:=Ba.symm;subst Ba)|(go_at_call 94;refine(H3.out _).mono ?_;rintro e wz ⟨rfl,Ba⟩;have Ba:=Ba.symm;subst Ba)|(go_at_call 93;refine(H4.out _).mono ?_;rintro e wz ⟨rfl,Ba⟩;have Ba:=Ba.symm;subst Ba)|(go_at_call 102;refine(H5.out _).mono ?_;rintro e wz ⟨rfl,Ba⟩;have Ba:=Ba.symm;subst Ba));go_ret;rw[HM.out];obtain⟨s4,k4⟩:=S2.out.setSt 5;exact⟨rfl,⟨_,_,_,s4⟩,K2.out.trans k4,Nat.le_trans HS.out k4.size⟩
      ·have e34:(r==34)=false:=by simp[BZ]
       by_cases hsg:sgB r=true
       ·rw[hsg] at H5
        have HM:Hid (qag x q r=(0,{ x with fr:=q,st:=0,tk:=x.tk++[⟨7,[rB r],0,0,0,q⟩] })):=by unfold Hid qag;rw[if_neg hbl,if_neg EG,if_neg hsm,if_neg hgr,if_neg hdg,if_neg BZ,if_pos hsg]
        have HA:=qaa (S2.out.add ⟨7,[rB r],0,0,0,0⟩ hl (by have:=HS.out;omega));unfold tkV at HA;have hcs:r=123∨r=125∨r=40∨r=41∨r=44∨r=59∨r=61∨r=126∨r=45:=by simpa [sgB,or_assoc] using hsg
        clear hbl Et hsm Em hgr EB hdg EL hsg;rcases hcs with rfl|rfl|rfl|rfl|rfl|rfl|rfl|rfl|rfl
        all_goals
         go_wp2_with (first|(go_at_call 101;refine(H1.out _).mono ?_;rintro e wz ⟨rfl,Ba⟩;have Ba:=Ba.symm;subst Ba)|(go_at_call 92;refine(H2.out _).mono ?_;rintro e wz ⟨rfl,Ba⟩;have Ba:=Ba.symm;subst Ba)|(go_at_call 94;refine(H3.out _).mono ?_;rintro e wz ⟨rfl,Ba⟩;have Ba:=Ba.symm;subst Ba)|(go_at_call 93;refine(H4.out _).mono ?_;rintro e wz ⟨rfl,Ba⟩;have Ba:=Ba.symm;subst Ba)|(go_at_call 102;refine(H5.out _).mono ?_;rintro e wz ⟨rfl,Ba⟩;have Ba:=Ba.symm;subst Ba)|(go_at_call 64;refine HA.out.mono ?_;rintro e w3 ⟨rfl,hA,hK,hS⟩;have HA2:=qaa hA;have HK:=qaa hK;have EH:=qaa hS;clear hA hK hS));go_ret;rw[HM.out];exact⟨rfl,HA2.out,K2.out.trans HK.out,Nat.le_trans HS.out EH.out⟩
       ·have Li:sgB r=false:=by simpa using hsg
        rw[Li] at H5;have HM:Hid (qag x q r=(80,{ x with fr:=q,st:=0 })):=by unfold Hid qag;rw[if_neg hbl,if_neg EG,if_neg hsm,if_neg hgr,if_neg hdg,if_neg BZ,if_neg hsg]
        clear hbl Et hsm Em hgr EB hdg EL hsg Li;go_wp2_with (first|(go_at_call 101;refine(H1.out _).mono ?_;rintro e wz ⟨rfl,Ba⟩;have Ba:=Ba.symm;subst Ba)|(go_at_call 92;refine(H2.out _).mono ?_;rintro e wz ⟨rfl,Ba⟩;have Ba:=Ba.symm;subst Ba)|(go_at_call 94;refine(H3.out _).mono ?_;rintro e wz ⟨rfl,Ba⟩;have Ba:=Ba.symm;subst Ba)|(go_at_call 93;refine(H4.out _).mono ?_;rintro e wz ⟨rfl,Ba⟩;have Ba:=Ba.symm;subst Ba)|(go_at_call 102;refine(H5.out _).mono ?_;rintro e wz ⟨rfl,Ba⟩;have Ba:=Ba.symm;subst Ba));go_ret;rw[HM.out];exact⟨rfl,⟨_,_,_,S2.out⟩,K2.out,HS.out⟩
end
theorem qh3 (s:By) (w:World) (hl:s.length≤4294967296):Calls Tryz.prog 95 #[.string ⟨s.toArray⟩] w fun e w'=>e=.returned (.string ⟨s.toArray⟩)∧Below w.heap.size w w':=by
 have HC:=qaa (Tryz.stringslite_Clone ⟨s.toArray⟩ w (by rw[qa5];omega));go_enter Tryz.func95,Tryz.ntmps95;go_wp2_with (go_at_call 128;refine HC.out.mono ?_;rintro e w1 ⟨rfl,x1⟩;have X1:=qaa x1;clear x1);go_ret;exact⟨rfl,X1.out⟩
def qbq (s:By) (i j:Nat):By:=(s.take j).drop i
theorem qfq (s:By) (i j:Nat):(⟨s.toArray⟩:ByteArray).extract i j=⟨(qbq s i j).toArray⟩:=by
 unfold qbq;apply ByteArray.ext;apply Array.toList_inj.1;simp[List.drop_take]
def qan (s:By) (x:SS) (q:Int):Int×SS:=if x.st=2 then qal x (qbq s x.fr.toNat q.toNat) (if wdB (qbq s x.fr.toNat q.toNat)=true then 1 else 2) 32 else qal x (qbq s x.fr.toNat q.toNat) 3 16
section
variable {w:World} {base p:Nat} {s:By} {x:SS}
theorem qgm (h:ScA w base p s x) (q:Int) (h2:x.st=2∨x.st=3) (h0:0≤x.fr) (h1:x.fr≤q) (hq:q≤s.length) (hs:s.length≤4294967296) (hb:base≤w.heap.size) (hl:x.tk.length≤4294967296):
 Calls Tryz.prog 62 #[.pointer (some ⟨p,0,none⟩),.int .i64 q] w fun e w'=>ScE w base p s (qan s x q) e w':=by
 obtain⟨tv,ad,bv,h⟩:=h;have hsz:=qa5 s;have HE:=qaa (qfq s x.fr.toNat q.toNat);obtain⟨run,hrun⟩:∃run,Hid (run=qbq s x.fr.toNat q.toNat):=⟨_,rfl⟩;rw[←hrun.out] at HE;have hrl:run.length≤4294967296:=by rw[hrun.out];unfold qbq;simp;omega
 have Bu:=qaa (fun W=>qh3 run W hrl);have HC:Hid (∀V,Below w.heap.size w V→ScA V base p s x∧V.cell? ⟨p,0,none⟩=some (.string ⟨s.toArray⟩)∧V.cell? ⟨p,2,none⟩=some (.int .i64 x.st)∧V.cell? ⟨p,3,none⟩=some (.int .i64 x.fr)):=fun V y=>by
  have:=h.below y;obtain⟨c0,c2,c3,_⟩:=this.cells;exact⟨⟨_,_,_,this⟩,c0,c2,c3⟩
 obtain⟨-,c0,c2,c3⟩:=HC.out w Yj;have HH:=qaa h;clear h;go_enter Tryz.func62,Tryz.ntmps62;go_upto_region 1 with fail
 have HM:Hid (qan s x q=if x.st=2 then qal x run (if wdB run=true then 1 else 2) 32 else qal x run 3 16):=by unfold Hid qan;rw[hrun.out]
 go_region_with (go_at_call 95;rw[HE.out];refine(Bu.out _).mono ?_;rintro e w1 ⟨rfl,x1⟩;have X1:=qaa (bt (Below.drew (Below.refl w.heap.size w)) x1 Yi);clear x1)
 all_goals
  obtain⟨hA,d0,d2,d3⟩:=HC.out w1 X1.out;have hz:=X1.out.size;rcases h2 with h2|h2
  ·rw[h2] at d2
   rw[if_pos h2] at HM;have HK:=qaa (fun W=>qg9 run W);generalize (if wdB run=true then(1:Int) else 2)=kd at *;have HX:=qaa (qd0 hA run kd 32 (by omega) hl);clear hA c0 c2 c3 HC;go_wp2_with (first|(go_at_call 97;refine(HK.out _).mono ?_;rintro e wz ⟨rfl,Ba⟩;have Ba:=Ba.symm;subst Ba)|(go_at_call 96;refine HX.out.mono ?_;rintro e w2 ⟨rfl,hA,hK,hS⟩;have HA2:=qaa hA;have Bn:=qaa hK;have HS2:=qaa hS;clear hA hK hS));go_ret;rw[HM.out];exact⟨rfl,HA2.out,(KpT.of_below X1.out).trans Bn.out,Nat.le_trans X1.out.size HS2.out⟩
  ·rw[h2] at d2
   rw[if_neg (by rw[h2];decide)] at HM;have HX:=qaa (qd0 hA run 3 16 (by omega) hl);clear hA c0 c2 c3 HC;go_wp2_with (go_at_call 96;refine HX.out.mono ?_;rintro e w2 ⟨rfl,hA,hK,hS⟩;have HA2:=qaa hA;have Bn:=qaa hK;have HS2:=qaa hS;clear hA hK hS);go_ret;rw[HM.out];exact⟨rfl,HA2.out,(KpT.of_below X1.out).trans Bn.out,Nat.le_trans X1.out.size HS2.out⟩
end
def qby (s:By) (x:SS) (q r:Int):Int×SS:=
 if x.st=1 then(0,if r=10 then { x with st:=0 } else x)
 else if x.st=5 then qaz x r
 else if x.st=6 then qbe x r
 else if x.st=2∨x.st=3 then
  if goB x.st r=true then(0,x)
  else if (qan s x q).1=0 then qag (qan s x q).2 q r else qan s x q
 else qag x q r
def qh4 (s:By) (x:SS):Int×SS:=
 if x.st=5∨x.st=6 then(83,x)
 else if x.st=2∨x.st=3 then
  if (qan s x s.length).1=0 then(0,{ (qan s x s.length).2 with fr:=s.length,tk:=(qan s x s.length).2.tk++[⟨8,[],0,0,0,s.length⟩] }) else qan s x s.length
 else(0,{ x with fr:=s.length,tk:=x.tk++[⟨8,[],0,0,0,s.length⟩] })
theorem qea (x:SS) (run:By) (a b:Int):(qal x run a b).2.tk.length≤x.tk.length+1∧((qal x run a b).1=0∨(qal x run a b).1=82):=by
 unfold qal;split
 ·exact⟨by simp,.inr rfl⟩
 ·exact⟨by simp,.inl rfl⟩
theorem qfr (s:By) (x:SS) (q:Int):(qan s x q).2.tk.length≤x.tk.length+1∧((qan s x q).1=0∨(qan s x q).1=82):=by
 unfold qan;split
 ·exact qea _ _ _ _
 ·exact qea _ _ _ _
section
variable {w:World} {base p:Nat} {s:By} {x:SS}
theorem qq7 (h:ScA w base p s x) (h4:x.st≠4) (hf0:0≤x.fr) (hf1:x.fr≤s.length) (hs:s.length≤4294967296) (hb:base≤w.heap.size) (hl:x.tk.length≤4294967295):
 Calls Tryz.prog 38 #[.pointer (some ⟨p,0,none⟩)] w fun e w'=>ScE w base p s (qh4 s x) e w':=by
 have HA:=qaa h;obtain⟨tv,ad,bv,h⟩:=h;obtain⟨c0,c2,-,f2,-⟩:=h.cells;have hsz:=qa5 s;clear h;by_cases e5:x.st=5
 ·rw[e5] at c2
  have HM:Hid (qh4 s x=(83,x)):=by unfold Hid qh4;rw[if_pos (.inl e5)]
  go_enter Tryz.func38,Tryz.ntmps38;go_wp2;go_ret;rw[HM.out];exact⟨rfl,HA.out,KpT.refl _ _ _,Nat.le_refl _⟩
 ·have g5:(x.st==5)=false:=by simp[e5]
  by_cases e6:x.st=6
  ·rw[e6] at c2
   have HM:Hid (qh4 s x=(83,x)):=by unfold Hid qh4;rw[if_pos (.inr e6)]
   clear g5;go_enter Tryz.func38,Tryz.ntmps38;go_wp2;go_ret;rw[HM.out];exact⟨rfl,HA.out,KpT.refl _ _ _,Nat.le_refl _⟩
  ·have g6:(x.st==6)=false:=by simp[e6]
   have n56:¬(x.st=5∨x.st=6):=by omega
   have Jb:Hid (∀(W:World) (y:SS),ScA W base p s y→base≤W.heap.size→y.tk.length≤4294967296→∃tv ad bv,Sc W base p s y tv ad bv∧W.cell? ⟨p,0,none⟩=some (.string ⟨s.toArray⟩)∧W.frozen? ⟨p,3,none⟩=false∧(∃z,W.cell? ⟨p,3,none⟩=some z)∧KpT base p W (W.setCell ⟨p,3,none⟩ (.int .i64 s.length))∧Calls Tryz.prog 64 #[.pointer (some ⟨p,0,none⟩),.agg #[.int .i64 8,.string ⟨#[]⟩,.int .i64 0,.int .i64 0,.int .i64 0,.int .i64 0]] (W.setCell ⟨p,3,none⟩ (.int .i64 s.length)) fun e w'=>e=.returned (.tuple #[])∧ScA w' base p s { y with fr:=s.length,tk:=y.tk++[⟨8,[],0,0,0,s.length⟩] }∧KpT base p (W.setCell ⟨p,3,none⟩ (.int .i64 s.length)) w'∧(W.setCell ⟨p,3,none⟩ (.int .i64 s.length)).heap.size≤w'.heap.size):=fun W y hy hz ht=>by
    obtain⟨tv,ad,bv,hy⟩:=hy;obtain⟨s1,k1⟩:=hy.setFr s.length;obtain⟨d0,-,d3,-,f3⟩:=hy.cells;refine⟨tv,ad,bv,hy,d0,f3,⟨_,d3⟩,k1,?_⟩;exact s1.add ⟨8,[],0,0,0,0⟩ ht (by have:=k1.size;omega)
   by_cases e23:x.st=2∨x.st=3
   ·have HM:Hid (qh4 s x=if (qan s x s.length).1=0 then(0,{ (qan s x s.length).2 with fr:=s.length,tk:=(qan s x s.length).2.tk++[⟨8,[],0,0,0,s.length⟩] }) else qan s x s.length):=by unfold Hid qh4;rw[if_neg n56,if_pos e23]
    have HX:=qaa (qgm HA.out s.length e23 hf0 hf1 (by omega) hs hb (by omega));obtain⟨ht,hy⟩:=qfr s x s.length;generalize qan s x s.length=y at *;obtain⟨y1,y2⟩:=y;simp only at HM HX ht hy;rcases hy with rfl|rfl
    ·rw[if_pos rfl] at HM
     rcases e23 with e2|e2
     all_goals
      rw[e2] at c2;clear g5 g6;go_enter Tryz.func38,Tryz.ntmps38;go_wp2_with (first|(go_at_call 62;refine HX.out.mono ?_;rintro e w2 ⟨rfl,hA,hK,hS⟩;obtain⟨tv,ad,bv,hy,d0,f3,⟨z,d3⟩,k1,hc⟩:=Jb.out w2 y2 hA (by omega) (by omega);have BH:=qaa hc;have DK:=qaa k1;have Bn:=qaa hK;have HS2:=qaa hS;clear hA hK hS hy hc k1)|(go_at_call 64;refine BH.out.mono ?_;rintro e w3 ⟨rfl,hA,hK,hS⟩;have Ey:=qaa hA;have Db:=qaa hK;have EH:=qaa hS;clear hA hK hS));go_ret;rw[HM.out];exact⟨rfl,Ey.out,Bn.out.trans (DK.out.trans Db.out),Nat.le_trans HS2.out (Nat.le_trans DK.out.size EH.out)⟩
    ·rw[if_neg (by decide)] at HM
     rcases e23 with e2|e2
     all_goals
      rw[e2] at c2;clear g5 g6;go_enter Tryz.func38,Tryz.ntmps38;go_wp2_with (go_at_call 62;refine HX.out.mono ?_;rintro e w2 ⟨rfl,hA,hK,hS⟩;have HA2:=qaa hA;have Bn:=qaa hK;have HS2:=qaa hS;clear hA hK hS);go_ret;rw[HM.out];exact⟨rfl,HA2.out,Bn.out,HS2.out⟩
   ·have HM:Hid (qh4 s x=(0,{ x with fr:=s.length,tk:=x.tk++[⟨8,[],0,0,0,s.length⟩] })):=by unfold Hid qh4;rw[if_neg n56,if_neg e23]
    have g2:(x.st==2)=false:=by simp;omega
    have g3:(x.st==3)=false:=by simp;omega
    have g4:(x.st==4)=false:=by simp[h4]
    have n1:¬x.st=2:=by omega
    have n2:¬x.st=3:=by omega
    obtain⟨tv',ad',bv',hy,d0,f3,⟨z,d3⟩,k1,hc⟩:=Jb.out w x HA.out hb (by omega);have BH:=qaa hc;have DK:=qaa k1;clear hy hc k1 d0;go_enter Tryz.func38,Tryz.ntmps38;go_wp2_with (go_at_call 64;refine BH.out.mono ?_;rintro e w3 ⟨rfl,hA,hK,hS⟩;have Ey:=qaa hA;have Db:=qaa hK;have EH:=qaa hS;clear hA hK hS);go_ret;rw[HM.out];exact⟨rfl,Ey.out,DK.out.trans Db.out,Nat.le_trans DK.out.size EH.out⟩
end
theorem qh5 (w:World) (k:Nat) (s:ByteArray) (q:Nat):Kept (fun j=>j=k) w (w.iterAt k s q):=⟨rfl,rfl,rfl,by rw[Lib.iterAt_size];exact Nat.le_refl _,fun j _ h=>Lib.iterAt_other w k j s q h⟩
theorem ScA.iter {w:World} {base p k:Nat} {s:By} {x:SS} (h:ScA w base p s x) {t:ByteArray} {pos:Nat} (hk:w.heap[k]? =some (.stringIter t pos)) (q:Nat):ScA (w.iterAt k t q) base p s x:=by
 obtain⟨tv,ad,bv,h⟩:=h;have hne:∀j c e f,w.heap[j]? =some (.cells c e f)→¬j=k:=fun j c e f hj e'=>by rw[e',hk] at hj;cases hj
 refine⟨tv,ad,bv,(Lib.iterAt_other w k p t q (hne p _ _ _ h.blk)).trans h.blk,h.ge,h.ad',qai h.tok (qh5 w k t q) (fun j hj=>?_),qai h.row (qh5 w k t q) (fun j hj=>?_),h.nil⟩
 ·obtain⟨c,hc⟩:=qaw h.tok j hj
  exact hne _ _ _ _ hc
 ·obtain⟨c,hc⟩:=qaw h.row j hj
  exact hne _ _ _ _ hc
def okX (i:Nat) (x:SS):Bool:=decide (x.st≠4)&&decide (0≤x.fr)&&decide (x.fr≤i)&&decide (x.tk.length≤8000)&&decide (x.mn.length≤8000)
def okF (s:By):Nat→SS→By→Bool
 |i,x,[]=>okX i x
 |i,x,b::t=>okX i x&&(decide (b.toNat<128)&&(if (qby s x i (bI b)).1=0 then okF s (i+1) (qby s x i (bI b)).2 t else true))
def x0:SS:=⟨[],0,0,[]⟩
theorem KpO.to_below {t:TypeId} {base b:Nat} {w w':World} (h:KpO t base b w w') (hb:base≤b) (hs:base≤w.heap.size):Below base w w':=Kept.below h hs (fun i hi=>by
 rcases hi with h1|⟨h1,_⟩
 ·omega
 ·exact h1)
theorem qtc {r:Int} (h:128≤r):txB r=false:=by unfold txB;have:decide (r≤126)=false:=(by simp;omega);rw[this,Bool.and_false]
theorem qmj (l:By):Lib.strCells ⟨l.toArray⟩=Lib.byteCells l:=by
 unfold Lib.strCells Lib.byteCells;simp
theorem qev {P:Program} {w:World} {ops:Array Oper} {rest:List Oper} {o:Oper} {a:Act} {Q:Exit→Act→World→Prop} (hgd:o.guard=none) (sl x:Operand) (t u:TypeId)
 (ho:o.op=.call { callee:=.builtin .append,args:=#[sl,x],argTypes:=#[t,u] })
 (base:Nat) (e:TypeId) (i:TypeInfo) (ht:P.underlying t=some (.slice e)) (hu:P.underlying u=some .string) (hi:P.info? e=some i) (hz:i.zero=some (.int .u8 0))
 (hsize:i.size=1) (hby:i.bytes=1)
 (v:Value) (l:By) (hs:a.eval sl=v) (hown:w.ownsRow base e 1 v l.length (Lib.byteCells l)) (s:By) (hx:a.eval x=.string ⟨s.toArray⟩)
 (h63:l.length+s.length≤140737488355328) (hbase:base≤w.heap.size)
 (h:∀v' w',w'.ownsRow base e 1 v' (l++s).length (Lib.byteCells (l++s))→w.grownBy w' v.ownBlock→(v'=.slice none 0 0↔v=.slice none 0 0∧s=[])→wpList P ops Q rest (a.put o.dst v') w'):
 wpList P ops Q (o::rest) a w:=by
 have hsz:(⟨s.toArray⟩:ByteArray).size=s.length:=by simp[ByteArray.size]
 obtain⟨v',w',hr,h2,h3,h4⟩:=run_append_own_string (P:=P) w base t u o.type e i ht hu hi hz hsize hby v l.length (Lib.byteCells l) hown ⟨s.toArray⟩ (by rw[hsz];unfold maxLen;omega) (by rw[hsz];exact h63) hbase;refine wpList_plain hgd fun _ hK=>?_
 unfold Oper.wp execOp;simp only[ho,resolve,invoke,builtin,Sem.run_bind,Sem.run_pure,Result.andThen_ok,List.map_toArray,List.map_cons,List.map_nil,hs,hx,hr];refine hK _ _ (h v' w' ?_ h3 ?_)
 ·rw[hsz,qmj] at h2
  rw[List.length_append,show Lib.byteCells (l++s)=Lib.byteCells l++Lib.byteCells s by simp[Lib.byteCells]];exact h2
 ·rw[h4,hsz]
  exact⟨fun h=>⟨h.1,List.eq_nil_of_length_eq_zero h.2⟩,fun h=>⟨h.1,by rw[h.2];rfl⟩⟩
section
variable {w:World} {base b o:Nat} {e:TypeId} {cs:Array Value} {l:List UInt8}
theorem BuB.put2 (h:BuB w base b o e cs l) {w6:World} {v v':Value} {l':List UInt8} (h1:w6.ownsRow base 5 1 v' l'.length (Lib.byteCells l')) (h2:w.grownBy w6 v.ownBlock) (hr:w.ownsRow base 5 1 v l.length (Lib.byteCells l)):
 BuB (w6.setCell ⟨b,o+1,none⟩ v') base b o e (cs.set! (o+1) v') l'∧KpO 5 base b w (w6.setCell ⟨b,o+1,none⟩ v')∧w6.heap[b]? =some (.cells cs e (0,0)):=by
 have k0:=qae h2;have k1:KpO 5 base b w w6:=k0.mono (fun k hk=>by
  obtain⟨c,hc⟩:=qaw hr k hk;exact .inr ⟨(World.ownsRow.lt hr k hk).1,c,_,hc⟩)
 have hB6:w6.heap[b]? =some (.cells cs e (0,0)):=(k0.block b (Yd h.blk) (fun e'=>h.apart hr (.inl rfl) b e' rfl)).trans h.blk;have hap:∀k,v'.ownBlock=some k→¬k=b:=fun k hk e'=>by
  obtain⟨c,hc⟩:=qaw h1 k hk;rw[e',hB6] at hc;injection hc with hc
  injection hc with _ hc _
  exact h.ne.1 hc
 refine⟨⟨qab hB6 _ _,h.ge,by simpa using h.ho,by simpa using h.lies,h.ne,?_,v',?_,?_⟩,k1.trans (KpO.set _),hB6⟩
 ·rw[Array.set!_eq_setIfInBounds,Array.getElem?_setIfInBounds_ne (show o+1≠o by omega)]
  exact h.ad
 ·have:=h.ho
  simp[Array.set!_eq_setIfInBounds,this]
 ·exact qai (F:=fun k=>k=b) h1 ((Kept.refl (fun k=>k=b) w6).setCell (p:=⟨b,o+1,none⟩) rfl _) hap
theorem BuB.str (h:BuB w base b o e cs l) (t:By) (hb:base≤w.heap.size) (hl:l.length+t.length≤140737488351232) (h0:l=[]→cs[o+1]? =some (.slice none 0 0)):
 Calls Tryz.prog 136 #[.pointer (some ⟨b,o,none⟩),.string ⟨t.toArray⟩] w fun x w'=>x=.returned (.tuple #[.int .i64 (t.length:Int),.nilIface])∧(∃v',BuB w' base b o e ((cs.set! o (.pointer (some ⟨b,o,none⟩))).set! (o+1) v') (l++t)∧(l++t=[]→v'=.slice none 0 0))∧KpO 5 base b w w':=by
 obtain⟨i5,hi5,En,Eo,Ep⟩:=info_parts Tryz.info5n;have HC:=qaa (h.copy hb);have H0:Hid (l=[]→(cs.set! o (.pointer (some ⟨b,o,none⟩)))[o+1]? =some (.slice none 0 0)):=fun e=>by
  rw[Array.set!_eq_setIfInBounds,Array.getElem?_setIfInBounds_ne (by omega)];exact h0 e
 clear h h0;have hsz:(⟨t.toArray⟩:ByteArray).size=t.length:=by simp[ByteArray.size]
 go_enter Tryz.func136,Tryz.ntmps136;go_upto_region 2 with(go_at_call 153;refine HC.out.mono ?_;rintro x w1 ⟨rfl,h1,k1,hs1⟩;have HB:=qaa h1;have HK:=qaa k1;have HS:=qaa hs1;clear h1 k1 hs1)
 clear HC;obtain⟨v,hv,hr⟩:=HB.out.row;obtain⟨d0,d1,d2,d3⟩:=HB.out.cells;rw[hv] at d1;have HV:=qaa hv;have HR:=qaa hr;have P3:Hid (base≤w1.heap.size):=by
  have h2:=HS.out;unfold Hid;omega
 have Ed:Hid (∀v' w6,w6.ownsRow base 5 1 v' (l++t).length (Lib.byteCells (l++t))→w1.grownBy w6 v.ownBlock→BuB (w6.setCell ⟨b,o+1,none⟩ v') base b o e ((cs.set! o (.pointer (some ⟨b,o,none⟩))).set! (o+1) v') (l++t)∧KpO 5 base b w1 (w6.setCell ⟨b,o+1,none⟩ v')∧w6.frozen? ⟨b,o+1,none⟩=false∧(∃y,w6.cell? ⟨b,o+1,none⟩=some y)):=fun v' w6 q1 q2=>by
  have:=HB.out.put2 (l':=l++t) q1 q2 HR.out;have hc:=Ye _ _ (o+1) _ _ _ this.2.2;rw[HV.out] at hc;exact⟨this.1,this.2.1,Yf _ _ _ _ _ this.2.2,v,hc⟩
 have HN:Hid (∀v':Value,(v'=.slice none 0 0↔v=.slice none 0 0∧t=[])→l++t=[]→v'=.slice none 0 0):=fun v' q hn=>by
  obtain⟨e1,e2⟩:=List.append_eq_nil_iff.1 hn;refine q.2 ⟨?_,e2⟩;have:=H0.out e1;rw[HV.out] at this;exact Option.some.inj this
 clear hr hv;go_wp2_with (at_builtin;refine qev rfl (.tmp 12) (.tmp 13) 64 9 rfl base 5 i5 Tryz.underlying64 Tryz.underlying9 hi5 En Eo Ep _ l rfl HR.out t rfl (by omega) P3.out ?_;intro v6 w6 q1 q2 q3;obtain⟨ao6,cp6,Ld,_⟩:=qad q1;have HQ:=qaa (HN.out _ q3);subst Ld;obtain⟨hB,hK,hF,y,hy⟩:=Ed.out _ w6 q1 q2;have HB2:=qaa hB;have Bn:=qaa hK;clear q1 q2 q3 hB hK);go_ret2;simp only[List.length_append] at HB2 Bn HQ;exact⟨rfl,⟨_,HB2.out,HQ.out⟩,HK.out.trans Bn.out⟩
end
structure WrA (w:World) (base wp:Nat) (s:By) (pt:Bool):Prop where
 at_:∃cs,BuB w base wp 0 120 cs s∧cs.size=3∧cs[2]? =some (.bool pt)∧(s=[]→cs[1]? =some (.slice none 0 0))
 le:base≤w.heap.size
 few:s.length≤8001
theorem WrA.below {w w':World} {base wp:Nat} {s:By} {pt:Bool} (h:WrA w base wp s pt) (x:Below w.heap.size w w'):WrA w' base wp s pt:=by
 obtain⟨cs,h1,h2,h3,h4⟩:=h.at_;obtain⟨v,hv,hr⟩:=h1.row;exact⟨⟨cs,⟨(x.block wp (Yd h1.blk)).trans h1.blk,h1.ge,h1.ho,h1.lies,h1.ne,h1.ad,v,hv,own_below hr x⟩,h2,h3,h4⟩,Nat.le_trans h.le x.size,h.few⟩
theorem WrA.cell {w:World} {base wp:Nat} {s:By} {pt:Bool} (h:WrA w base wp s pt):w.cell? ⟨wp,2,none⟩=some (.bool pt)∧w.frozen? ⟨wp,2,none⟩=false:=by
 obtain⟨cs,h1,h2,h3,h4⟩:=h.at_;exact⟨by rw[Ye _ _ _ _ _ _ h1.blk];exact h3,Yf _ _ _ _ _ h1.blk⟩
theorem WrA.set {w:World} {base wp:Nat} {s:By} {pt:Bool} (h:WrA w base wp s pt) (q:Bool):WrA (w.setCell ⟨wp,2,none⟩ (.bool q)) base wp s q∧KpO 5 base wp w (w.setCell ⟨wp,2,none⟩ (.bool q)):=by
 obtain⟨cs,h1,h2,h3,h4⟩:=h.at_;obtain⟨v,hv,hr⟩:=h1.row;have kk:Kept (fun k=>k=wp) w (w.setCell ⟨wp,2,none⟩ (.bool q)):=Kept.setCell (F:=fun k=>k=wp) (p:=⟨wp,2,none⟩) (Kept.refl _ _) rfl _;refine⟨⟨⟨cs.set! 2 (.bool q),⟨qab h1.blk 2 _,h1.ge,by simpa using h1.ho,by simpa using h1.lies,h1.ne,?_,v,?_,qai hr kk (fun k hk=>h1.apart hr (.inl rfl) k hk)⟩,by simp[h2],?_,?_⟩,by simpa using h.le,h.few⟩,KpO.set _⟩
 ·rw[Array.set!_eq_setIfInBounds,Array.getElem?_setIfInBounds_ne (by omega)]
  exact h1.ad
 ·rw[Array.set!_eq_setIfInBounds,Array.getElem?_setIfInBounds_ne (by omega)]
  exact hv
 ·simp[Array.set!_eq_setIfInBounds,h2]
 ·rw[Array.set!_eq_setIfInBounds,Array.getElem?_setIfInBounds_ne (by omega)]
  exact h4
theorem WrA.str {w:World} {base wp:Nat} {s:By} {pt:Bool} (h:WrA w base wp s pt) (t:By) (ht:(s++t).length≤8001):
 Calls Tryz.prog 136 #[.pointer (some ⟨wp,0,none⟩),.string ⟨t.toArray⟩] w fun x w'=>x=.returned (.tuple #[.int .i64 (t.length:Int),.nilIface])∧WrA w' base wp (s++t) pt∧KpO 5 base wp w w':=by
 obtain⟨cs,h1,h2,h3,h4⟩:=h.at_;rw[List.length_append] at ht;refine(h1.str t h.le (by omega) h4).mono ?_;rintro x w' ⟨rfl,⟨v',hB,hn⟩,hk⟩;have hbel:=hk.to_below h1.ge h.le;refine⟨rfl,⟨⟨_,hB,by simp[h2],?_,fun e=>?_⟩,Nat.le_trans h.le hbel.size,by rw[List.length_append];exact ht⟩,hk⟩
 ·rw[Array.set!_eq_setIfInBounds,Array.getElem?_setIfInBounds_ne (by omega),Array.set!_eq_setIfInBounds,Array.getElem?_setIfInBounds_ne (by omega)]
  exact h3
 ·rw[hn e]
  simp[Array.set!_eq_setIfInBounds,h2]
theorem WrA.byte {w:World} {base wp:Nat} {s:By} {pt:Bool} (h:WrA w base wp s pt) (c:UInt8) (ht:s.length<8001):
 Calls Tryz.prog 134 #[.pointer (some ⟨wp,0,none⟩),.int .u8 (c.toNat:Int)] w fun x w'=>x=.returned .nilIface∧WrA w' base wp (s++[c]) pt∧KpO 5 base wp w w':=by
 obtain⟨cs,h1,h2,h3,h4⟩:=h.at_;refine(h1.byte c h.le (by omega)).mono ?_;rintro x w' ⟨rfl,⟨v',hB⟩,hk⟩;have hbel:=hk.to_below h1.ge h.le;refine⟨rfl,⟨⟨_,hB,by simp[h2],?_,fun e=>by simp at e⟩,Nat.le_trans h.le hbel.size,by simp;omega⟩,hk⟩;rw[Array.set!_eq_setIfInBounds,Array.getElem?_setIfInBounds_ne (by omega),Array.set!_eq_setIfInBounds,Array.getElem?_setIfInBounds_ne (by omega)];exact h3
theorem WrA.len {w:World} {base wp:Nat} {s:By} {pt:Bool} (h:WrA w base wp s pt):Calls Tryz.prog 126 #[.pointer (some ⟨wp,0,none⟩)] w fun x w'=>x=.returned (.int .i64 (s.length:Int))∧w'=w:=by
 obtain⟨cs,h1,_⟩:=h.at_;exact h1.len
theorem WrA.string {w:World} {base wp:Nat} {s:By} {pt:Bool} (h:WrA w base wp s pt):Calls Tryz.prog 67 #[.pointer (some ⟨wp,0,none⟩)] w fun x w'=>x=.returned (.string ⟨s.toArray⟩)∧Below base w w':=by
 obtain⟨cs,h1,h2,h3,h4⟩:=h.at_;refine(h1.string h4).mono ?_;rintro x w' ⟨rfl,_,hk,_⟩;exact⟨rfl,hk.to_below h1.ge h.le⟩
theorem KpO.of_below {base wp:Nat} {w w':World} (h:Below w.heap.size w w'):KpO 5 base wp w w':=Kept.of_below h
theorem KpO.box {base wp k:Nat} {w w':World} (h:KpO 5 base wp w w') {cs:Array Value} {t:TypeId} {f:Nat×Nat} (hk:w.heap[k]? =some (.cells cs t f)) (ht:t≠5) (hw:k≠wp):w'.heap[k]? =some (.cells cs t f):=
 (h.block k (Yd hk) (fun hf=>by
   rcases hf with e|⟨_,c,f',e⟩
   ·exact hw e
   ·rw[hk] at e
    injection e with e
    injection e with _ e _
    exact ht e)).trans hk
theorem WrA.ne {w:World} {base wp k:Nat} {s:By} {pt:Bool} (h:WrA w base wp s pt) {cs:Array Value} {t:TypeId} {f:Nat×Nat} (hk:w.heap[k]? =some (.cells cs t f)) (ht:t≠120):k≠wp:=fun e=>by
 obtain⟨cs',h1,_⟩:=h.at_;rw[e,h1.blk] at hk;injection hk with hk
 injection hk with _ hk _
 exact ht hk.symm
abbrev WS:=By×Bool
def qe4 (t:By) (s:WS):Option WS:=if (s.1++t).length≤8000 then some (s.1++t,true) else none
def qsk (s:WS):By:=if s.2=true then s.1 else s.1++[32]
def qh6 (t:By) (s:WS):Option WS:=if (qsk s++t).length≤8000 then some (qsk s++t,false) else none
def qsl (t:By) (s:WS):Option WS:=if nmB t=true∧t.length≤8000 then qh6 t s else none
def qbz (base wp:Nat) (w:World) (x:WS) (e:Ending) (w':World):Prop:=e=.returned (.tuple #[])∧WrA w' base wp x.1 x.2∧KpO 5 base wp w w'
theorem qmk {t:By} {s x:WS} (h:qe4 t s=some x):(s.1++t).length≤8000∧x=(s.1++t,true):=by
 unfold qe4 at h;split at h
 ·exact⟨by assumption,(Option.some.inj h).symm⟩
 ·cases h
theorem qml {t:By} {s x:WS} (h:qh6 t s=some x):(qsk s++t).length≤8000∧x=(qsk s++t,false):=by
 unfold qh6 at h;split at h
 ·exact⟨by assumption,(Option.some.inj h).symm⟩
 ·cases h
theorem qbn (w:World):Calls Tryz.prog 65 #[.bool true] w fun e w'=>e=.returned (.tuple #[])∧w'=w:=by
 go_enter Tryz.func65,Tryz.ntmps65;go_wp2;go_end0;exact⟨rfl,rfl⟩
theorem qo2 (w:World):Calls Tryz.prog 65 #[.bool false] w fun e w'=>e=pan 93 0∧w'=w:=by
 go_enter Tryz.func65,Tryz.ntmps65;go_wp2;exact⟨rfl,rfl,rfl⟩
theorem qbh {w:World} {base wp:Nat} {s:WS} {t:By} {x:WS} (h:WrA w base wp s.1 s.2) (hx:qe4 t s=some x):Calls Tryz.prog 105 #[.pointer (some ⟨wp,0,none⟩),.string ⟨t.toArray⟩] w (qbz base wp w x):=by
 obtain⟨hl,rfl⟩:=qmk hx;have HL:=qaa hl;have HA:=qaa (h.str t (by omega));have HM:=qaa qbn;clear hx hl;go_enter Tryz.func105,Tryz.ntmps105;go_upto_region 1 with(go_at_call 136;refine HA.out.mono ?_;rintro e w1 ⟨rfl,r1,x1⟩;have R1:=qaa r1;have X1:=qaa x1;clear r1 x1)
 obtain⟨c1,f1⟩:=R1.out.cell;have HS:=qaa (R1.out.set true);go_upto_region 2 with fail
 clear c1 f1 HA R1;generalize w1.setCell ⟨wp,2,none⟩ (.bool true)=w2 at *;have HN:=qaa HS.out.1.len;have hlt:((s.1++t).length:Int)≤8000:=by have:=HL.out;omega
 generalize (s.1++t).length=n at *;go_wp2_with (first|(go_at_call 126;refine HN.out.mono ?_;rintro e w3 ⟨rfl,hw⟩;subst hw)|(go_at_call 65;refine(HM.out _).mono ?_;rintro e w4 ⟨rfl,hw⟩;subst hw));go_end0;exact⟨rfl,HS.out.1,X1.out.trans HS.out.2⟩
theorem qdi {w:World} {base wp:Nat} {s:WS} {t:By} {x:WS} (h:WrA w base wp s.1 s.2) (hx:qh6 t s=some x):Calls Tryz.prog 103 #[.pointer (some ⟨wp,0,none⟩),.string ⟨t.toArray⟩] w (qbz base wp w x):=by
 obtain⟨hl,rfl⟩:=qml hx;obtain⟨s,pt⟩:=s;unfold qsk at hl ⊢;simp only at h hl ⊢;have HH:=qaa h;obtain⟨c0,f0⟩:=h.cell;clear hx h;cases pt with
 |true=>
  rw[if_pos rfl] at hl ⊢;have HO:=qaa (qbh (s:=(s,true)) (t:=t) (x:=(s++t,true)) HH.out (if_pos hl));clear hl;go_enter Tryz.func103,Tryz.ntmps103;go_upto_region 3 with(go_at_call 105;refine HO.out.mono ?_;rintro e w1 ⟨rfl,r1,x1⟩;have R1:=qaa r1;have X1:=qaa x1;clear r1 x1)
  obtain⟨c1,f1⟩:=R1.out.cell;have HS:=qaa (R1.out.set false);clear c0 f0;go_wp2;go_end0;exact⟨rfl,HS.out.1,X1.out.trans HS.out.2⟩
 |false=>
  rw[if_neg (by decide)] at hl ⊢;have HB:=qaa (HH.out.byte 32 (by rw[List.length_append,List.length_append] at hl;simp at hl;omega));have HO:=qaa (fun w1 (r:WrA w1 base wp (s++[32]) false)=>qbh (s:=(s++[32],false)) (t:=t) (x:=(s++[32]++t,true)) r (if_pos hl));clear hl;go_enter Tryz.func103,Tryz.ntmps103;go_upto_region 2 with(go_at_call 134;refine HB.out.mono ?_;rintro e w0 ⟨rfl,r0,x0⟩;have R0:=qaa r0;have X0:=qaa x0;clear r0 x0)
  clear HB c0 f0;go_upto_region 3 with(go_at_call 105;refine(HO.out _ R0.out).mono ?_;rintro e w1 ⟨rfl,r1,x1⟩;have R1:=qaa r1;have X1:=qaa x1;clear r1 x1)
  obtain⟨c1,f1⟩:=R1.out.cell;have HS:=qaa (R1.out.set false);clear HO;go_wp2;go_end0;exact⟨rfl,HS.out.1,X0.out.trans (X1.out.trans HS.out.2)⟩
theorem qmm {w:World} {base wp:Nat} {s:WS} {t:By} {x:WS} (h:WrA w base wp s.1 s.2) (hx:qsl t s=some x):Calls Tryz.prog 104 #[.pointer (some ⟨wp,0,none⟩),.string ⟨t.toArray⟩] w (qbz base wp w x):=by
 unfold qsl at hx;split at hx
 ·rename_i hn
  have HN:=qaa (qk6 t w (by omega));rw[hn.1] at HN;have HM:=qaa qbn;have HW:=qaa (fun w1 (y:Below w.heap.size w w1)=>qdi (h.below y) hx);clear hn hx h;go_enter Tryz.func104,Tryz.ntmps104;go_upto_region 1 with(first|(go_at_call 135;refine HN.out.mono ?_;rintro e w1 ⟨rfl,x1⟩;have X1:=qaa x1;clear x1)|(go_at_call 65;refine(HM.out _).mono ?_;rintro e w2 ⟨rfl,hw⟩;subst hw))
  go_wp2_with (go_at_call 103;refine(HW.out _ X1.out).mono ?_;rintro e w3 ⟨rfl,r3,x3⟩;have R3:=qaa r3;have X3:=qaa x3;clear r3 x3);go_end0;exact⟨rfl,R3.out,(KpO.of_below X1.out).trans X3.out⟩
 ·cases hx
end Go.Proofs.YtlmhofjiobmodaaGreatDoor

