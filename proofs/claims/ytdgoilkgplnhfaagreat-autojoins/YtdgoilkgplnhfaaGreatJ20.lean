/-
  The statement's apart, walked: lists of numbers and of pairs, each in a block of its own, are apart. Condition: few lists, each no longer than 2^33.
-/
import Derived.Deep.DeepCutAuto
import Derived.Deep.CutBlock
import Derived.Test.YtdgoilkgplnhfaaGreatJ02
import Derived.Test.YtdgoilkgplnhfaaGreatJ03
import Derived.Test.YtdgoilkgplnhfaaGreatJ05
namespace Go.Proofs.YtdgoilkgplnhfaaGreat
open Go.RowKit Go.Lib
def mcS (i:Nat):List Value:=[.int .i64 (-5-(i:Int)),.int .i64 0]
def mcP (i:Nat):List Value:=[.int .i64 (-5-(i:Int))]
theorem qey (i:Nat):(mcS i).length=2:=rfl
theorem qez (i:Nat):(mcP i).length=1:=rfl
theorem Tryz.info22a:(Tryz.prog.info? 22).map (fun i=>(i.zero,i.size,i.bytes))=some (some (.slice none 0 0),1,24):=by kernel_rfl
theorem Tryz.info44a:(Tryz.prog.info? 44).map (fun i=>(i.zero,i.size,i.bytes))=some (some (.slice none 0 0),1,24):=by kernel_rfl
theorem Tryz.info48a:(Tryz.prog.info? 48).map (fun i=>(i.zero,i.size,i.bytes))=some (some (.agg #[.int .i64 0,.int .i64 0]),2,16):=by kernel_rfl
theorem Tryz.info3a:(Tryz.prog.info? 3).map (fun i=>(i.zero,i.size,i.bytes))=some (some (.int .i64 0),1,8):=by kernel_rfl
theorem qm2 {w:World} {base n cap g:Nat} {T:TypeId} {xs:List Value} (h:w.ownsRow base T 1 (.slice (some ⟨g,0,none⟩) n cap) n xs) {k:Nat} (hk:k<n) (a:Value):
 (∃u,w.cell? ⟨g,k,none⟩=some u)∧w.frozen? ⟨g,k,none⟩=false∧(w.setCell ⟨g,k,none⟩ a).ownsRow base T 1 (.slice (some ⟨g,0,none⟩) n cap) n (setL xs (k*1) [a])∧Kept (fun j=>some g=some j) w (w.setCell ⟨g,k,none⟩ a):=by
 have hl:=h.1;obtain⟨h3,h4⟩:=h.stored k a;refine⟨⟨xs[k]'(by omega),?_⟩,h.frozenAt _,?_,qae h4⟩
 ·rw[h.cellAt k (by omega)];exact List.getElem?_eq_getElem _
 ·rw[Nat.mul_one]
  exact h3
theorem qe0 {w w':World} {base size n:Nat} {e:TypeId} {v v':Value} {xs:List Value} (h:qbb w w' v v') (ho:w.ownsRow base e size v n xs):Kept (fun k=>base≤k) w w':=by
 rcases h with⟨g,a,b,c⟩|⟨a,b⟩
 ·exact(qae c).mono (fun k hk=>by cases hk;exact(World.ownsRow.lt ho g a).1)
 ·exact Kept.of_below (qad a)
theorem qcs {base:Nat} {w a b:World} (h:Below base w a) (k:Kept (fun k=>base≤k) a b) (hb:base≤w.heap.size):Below base w b:=
 h.trans (k.below (Nat.le_trans hb h.size) (fun _ h=>h))
theorem qlf {bk:Nat} {wr:World} {lv sv:Value} (this:wr.heap[bk]? =some (.cells #[lv,sv] 37 (0,0))):wr.cell? ⟨bk,0,none⟩=some lv∧wr.cell? ⟨bk,1,none⟩=some sv:=
 ⟨by rw[cell_of_row _ _ _ _ _ _ this];rfl,by rw[cell_of_row _ _ _ _ _ _ this];rfl⟩
def marked (mc:Nat→List Value) (D:List LD):Nat→List Value:=fun i=>rep mc i ((D[i]?.map LD.n).getD 0)
set_option maxRecDepth 100000 in
set_option maxHeartbeats 16000000 in
theorem qib (w:World) (base bk:Nat) (lao sao:Option Addr) (lcap scap:Nat) (DL DS:List LD) (XL XS:Nat→List Value) (hL:qen 22 3 1 w base (.slice lao DL.length lcap) DL XL) (hS:qen 44 48 2 w base (.slice sao DS.length scap) DS XS)
 (hbk:w.heap[bk]? =some (.cells #[.slice lao DL.length lcap,.slice sao DS.length scap] 37 (0,0))) (hb:base≤w.heap.size) (hDL:DL.length≤1000) (hDS:DS.length≤1000) (hnL:∀i (h:i<DL.length),(DL[i]).n≤4294967296) (hnS:∀i (h:i<DS.length),(DS[i]).n≤4294967296):
 Calls Tryz.prog 19 #[.pointer (some ⟨bk,0,none⟩)] w fun e w'=>e=.returned (.bool true)∧Below base w w':=by
 obtain⟨i3,hi3,hz30,hz31,hz32⟩:=info_parts Tryz.info3a;obtain⟨i48,hi48,hz480,hz481,hz482⟩:=info_parts Tryz.info48a;obtain⟨i22,hi22,hz220,hz221,hz222⟩:=info_parts Tryz.info22a;obtain⟨i44,hi44,hz440,hz441,hz442⟩:=info_parts Tryz.info44a;have HBK:=qaa (fun(wr:World) (h:wr.heap[bk]? =some (.cells #[.slice lao DL.length lcap,.slice sao DS.length scap] 37 (0,0)))=>qlf h);have HB0:=qaa hbk;have HNL:=qaa hnL;have HNS:=qaa hnS;have HL:=qaa hL;have HS:=qaa hS;clear hL hS hbk hnL hnS;go_enter Tryz.func19,Tryz.ntmps19;have XB:Hid (Below base w w):=Below.refl _ _;have HWB:Hid (base≤w.heap.size):=hb;go_upto_block 0 with fail
 go_cut [3,4] (fun _ _ wx=>Hid (qen 22 3 1 wx base (.slice lao DL.length lcap) DL (marked mcP DL))∧Hid (qen 44 48 2 wx base (.slice sao DS.length scap) DS XS)∧Hid (Below base w wx)∧Hid (wx.heap[bk]? =some (.cells #[.slice lao DL.length lcap,.slice sao DS.length scap] 37 (0,0))))
 case first=>
  go_wp2;go_loopw [3] (fun x wr=>∃i:Nat,i≤DL.length∧x=.int .i64 i∧∃X,Hid (Mkg 22 3 1 mcP w base (.slice lao DL.length lcap) DL i 0 X wr)) (fun x _=>DL.length-(RowKit.intOf x).toNat)
  case atStart=>exact⟨0,Nat.zero_le _,rfl,_,qaa (Mkg.start HL.out)⟩
  case round=>
   obtain⟨i,hi1,rfl,X1,M1⟩:=hrel;obtain⟨c0,c1⟩:=HBK.out wr (M1.out.keep _ _ _ _ (by decide) HB0.out);by_cases hlt:i<DL.length
   ·have hlt':(i:Int)<DL.length:=by omega
    obtain⟨ai,ci,hv,hpos⟩:=qag (M1.out.ls.each i hlt);have hnn:=HNL.out i hlt;go_wp2;go_loopw [4] (fun x wr=>∃k:Nat,k≤(DL[i]).n∧x=.int .i64 k∧∃X,Hid (Mkg 22 3 1 mcP w base (.slice lao DL.length lcap) DL i k X wr)) (fun x _=>(DL[i]).n-(RowKit.intOf x).toNat)
    case atStart=>exact⟨0,Nat.zero_le _,rfl,X1,M1⟩
    case round=>
     obtain⟨k,hk1,rfl,X2,M2⟩:=hrel;clear c0 c1 M1;obtain⟨c0,c1⟩:=HBK.out wr (M2.out.keep _ _ _ _ (by decide) HB0.out);obtain⟨lo,lc,hlv,hlp⟩:=qag M2.out.ls.row;obtain⟨lg,hlg⟩:=hlp (by omega);subst hlg;have c9:=qb5 M2.out.ls.row hlv hlt rfl;simp only[Value.slice.injEq] at hlv;obtain⟨hlv1,_,_⟩:=hlv;rw[hlv1] at c0;rw[hv] at c9;by_cases hk:k<(DL[i]).n
     ·obtain⟨g,rfl⟩:=hpos (by omega)
      have ho:=M2.out.ls.each i hlt;have HST:=qaa (fun(W':World) (h1:W'.ownsRow base 3 1 (DL[i]).v (DL[i]).n (setL (X2 i) (k*1) (mcP i))) (h2:Kept (fun j=>(DL[i]).v.ownBlock=some j) wr W')=>M2.out.step qez (by decide) hlt hk h1 h2 HWB.out);rw[hv] at ho HST;obtain⟨⟨u0,e0⟩,f0,o9,k9⟩:=qm2 ho hk (.int .i64 (-5-(i:Int)));obtain⟨X3,M3⟩:=HST.out _ o9 k9;have M3:=qaa M3;have fw:IntKind.i64.wrap (-5-(i:Int))= -5-(i:Int):=by simp[IntKind.wrap,IntKind.bits,IntKind.signed];omega
      generalize (DL[i]).n=n at *;have hk':(k:Int)<n:=by omega
      clear hv ho HST o9 k9 M2;go_wp2;go_roundw
      case rel=>exact⟨k+1,by omega,by go_num,X3,M3⟩
      case measure=>simp[RowKit.intOf];omega
     ·have h8:k=(DL[i]).n:=by omega
      have M3:Hid (Mkg 22 3 1 mcP w base (.slice lao DL.length lcap) DL (i+1) 0 X2 wr):=by have:=M2.out;rw[h8] at this;exact this.next qez hlt
      have hk':¬(k:Int)<(DL[i]).n:=by omega
      generalize (DL[i]).n=n at *;clear hv M2 h8;go_wp2;go_roundw
      case rel=>exact⟨i+1,by omega,by go_num,X2,M3⟩
      case measure=>simp[RowKit.intOf];omega
   ·have h8:i=DL.length:=by omega
    have hlt':¬(i:Int)<DL.length:=by omega
    have M2:Hid (Mkg 22 3 1 mcP w base (.slice lao DL.length lcap) DL DL.length 0 X1 wr):=by have:=M1.out;rw[h8] at this;exact this
    clear M1 h8;go_wp2;go_meet;exact⟨qaa M2.out.out,qaa (HS.out.keepT M2.out.keep (by decide) (by decide)),qaa (XB.out.trans M2.out.below),qaa (M2.out.keep _ _ _ _ (by decide) HB0.out)⟩
 case rest=>
  obtain⟨HL1,HS1,XB1,HB1⟩:=hcut;clear XB HWB HL HS;have XB:=XB1;have HWB:Hid (base≤wc.heap.size):=Nat.le_trans hb XB.out.size;go_upto_block 4 with fail
  go_cut [5,6] (fun _ _ wx=>Hid (qen 22 3 1 wx base (.slice lao DL.length lcap) DL (marked mcP DL))∧Hid (qen 44 48 2 wx base (.slice sao DS.length scap) DS (marked mcS DS))∧Hid (Below base w wx)∧Hid (wx.heap[bk]? =some (.cells #[.slice lao DL.length lcap,.slice sao DS.length scap] 37 (0,0))))
  case first=>
   go_wp2;go_loopw [5] (fun x wr=>∃i:Nat,i≤DS.length∧x=.int .i64 i∧∃X,Hid (Mkg 44 48 2 mcS wc base (.slice sao DS.length scap) DS i 0 X wr)) (fun x _=>DS.length-(RowKit.intOf x).toNat)
   case atStart=>exact⟨0,Nat.zero_le _,rfl,_,qaa (Mkg.start HS1.out)⟩
   case round=>
    obtain⟨i,hi1,rfl,X1,M1⟩:=hrel;obtain⟨c0,c1⟩:=HBK.out wr (M1.out.keep _ _ _ _ (by decide) HB1.out);by_cases hlt:i<DS.length
    ·have hlt':(i:Int)<DS.length:=by omega
     obtain⟨ai,ci,hv,hpos⟩:=qag (M1.out.ls.each i hlt);have hnn:=HNS.out i hlt;go_wp2;go_loopw [6] (fun x wr=>∃k:Nat,k≤(DS[i]).n∧x=.int .i64 k∧∃X,Hid (Mkg 44 48 2 mcS wc base (.slice sao DS.length scap) DS i k X wr)) (fun x _=>(DS[i]).n-(RowKit.intOf x).toNat)
     case atStart=>exact⟨0,Nat.zero_le _,rfl,X1,M1⟩
     case round=>
      obtain⟨k,hk1,rfl,X2,M2⟩:=hrel;clear c0 c1 M1;obtain⟨c0,c1⟩:=HBK.out wr (M2.out.keep _ _ _ _ (by decide) HB1.out);obtain⟨lo,lc,hlv,hlp⟩:=qag M2.out.ls.row;obtain⟨lg,hlg⟩:=hlp (by omega);subst hlg;have c9:=qb5 M2.out.ls.row hlv hlt rfl;simp only[Value.slice.injEq] at hlv;obtain⟨hlv1,_,_⟩:=hlv;rw[hlv1] at c1;rw[hv] at c9;by_cases hk:k<(DS[i]).n
      ·obtain⟨g,rfl⟩:=hpos (by omega)
       have ho:=M2.out.ls.each i hlt;have HST:=qaa (fun(W':World) (h1:W'.ownsRow base 48 2 (DS[i]).v (DS[i]).n (setL (X2 i) (k*2) (mcS i))) (h2:Kept (fun j=>(DS[i]).v.ownBlock=some j) wr W')=>M2.out.step qey (by decide) hlt hk h1 h2 HWB.out);rw[hv] at ho HST;obtain⟨⟨u0,e0⟩,f0,⟨u1,e1⟩,f1,o9,k9⟩:=qmq ho hk (.int .i64 (-5-(i:Int))) (.int .i64 0);obtain⟨X3,M3⟩:=HST.out _ o9 k9;have M3:=qaa M3;have fw:IntKind.i64.wrap (-5-(i:Int))= -5-(i:Int):=by simp[IntKind.wrap,IntKind.bits,IntKind.signed];omega
       generalize (DS[i]).n=n at *;have hk':(k:Int)<n:=by omega
       clear hv ho HST o9 k9 M2;go_wp2;go_roundw
       case rel=>exact⟨k+1,by omega,by go_num,X3,M3⟩
       case measure=>simp[RowKit.intOf];omega
      ·have h8:k=(DS[i]).n:=by omega
       have M3:Hid (Mkg 44 48 2 mcS wc base (.slice sao DS.length scap) DS (i+1) 0 X2 wr):=by have:=M2.out;rw[h8] at this;exact this.next qey hlt
       have hk':¬(k:Int)<(DS[i]).n:=by omega
       generalize (DS[i]).n=n at *;clear hv M2 h8;go_wp2;go_roundw
       case rel=>exact⟨i+1,by omega,by go_num,X2,M3⟩
       case measure=>simp[RowKit.intOf];omega
    ·have h8:i=DS.length:=by omega
     have hlt':¬(i:Int)<DS.length:=by omega
     have M2:Hid (Mkg 44 48 2 mcS wc base (.slice sao DS.length scap) DS DS.length 0 X1 wr):=by have:=M1.out;rw[h8] at this;exact this
     clear M1 h8;go_wp2;go_meet;exact⟨qaa (HL1.out.keepT M2.out.keep (by decide) (by decide)),qaa M2.out.out,qaa (XB.out.trans M2.out.below),qaa (M2.out.keep _ _ _ _ (by decide) HB1.out)⟩
  case rest=>
   obtain⟨HL2,HS2,XB2,HB2⟩:=hcut;clear XB HWB HS1 HL1 XB1;have XB:=XB2;go_upto_block 8 with fail
   go_cut [7,9,10,11] (fun o _ _ _ wx=>∃o3 A,o3=o∧Hid (KrO 6 22 3 1 mcP wx base (.slice lao DL.length lcap) o3 DL A DL.length)∧Hid (qen 44 48 2 wx base (.slice sao DS.length scap) DS (marked mcS DS))∧Hid (Below base w wx)∧Hid (wx.heap[bk]? =some (.cells #[.slice lao DL.length lcap,.slice sao DS.length scap] 37 (0,0))))
   case first=>
    go_wp2;go_loopw [7,9] (fun o x wr=>∃i:Nat,i≤DL.length∧x=.int .i64 i∧∃A,Hid (KrO 6 22 3 1 mcP wr base (.slice lao DL.length lcap) o DL A i)∧Hid (Below base w wr)∧Hid (qa9 (fun t=>t=22∨t=3) wc wr)) (fun _ x _=>DL.length-(RowKit.intOf x).toNat)
    case atStart=>exact⟨0,Nat.zero_le _,rfl,[],qaa (KrO.start HL2.out),XB,qaa (qa9.refl _ _)⟩
    case round=>
     obtain⟨i,hi1,rfl,A,G2,B2,T2⟩:=hrel;obtain⟨c0,c1⟩:=HBK.out wr (T2.out _ _ _ _ (by decide) HB2.out);by_cases hlt:i<DL.length
     ·have hlt':(i:Int)<DL.length:=by omega
      have hnn:=HNL.out i hlt;obtain⟨lo,lc,hlv,hlp⟩:=qag G2.out.row;obtain⟨lg,hlg⟩:=hlp (by omega);subst hlg;have c9:=qb5 G2.out.row hlv hlt rfl;simp only[Value.slice.injEq] at hlv;obtain⟨hlv1,_,_⟩:=hlv;rw[hlv1] at c0;have G3:=qaa (G2.out.enter hlt);clear G2;have fw:IntKind.i64.wrap (-5-(i:Int))= -5-(i:Int):=by simp[IntKind.wrap,IntKind.bits,IntKind.signed];omega
      generalize (DL[i]).n=n at *;generalize (DL[i]).v=xv at *;go_wp2;go_loopw [7,10,11] (fun o xx q wr=>∃k:Nat,k≤6∧q=.int .i64 k∧∃A nx,nx≤n+k∧Hid (Kr 6 22 3 1 mcP wr base (.slice lao DL.length lcap) o DL A i k xx nx)∧Hid (Below base w wr)∧Hid (qa9 (fun t=>t=22∨t=3) wc wr)) (fun _ _ q _=>6-(RowKit.intOf q).toNat)
      case atStart=>exact⟨0,Nat.zero_le _,rfl,A,n,Nat.le_refl _,G3,B2,T2⟩
      case round=>
       obtain⟨k,hk1,rfl,A4,nx,hnx,G4,B4,T4⟩:=hrel;clear G3 B2 T2 c0 c1 c9;by_cases hk:k<6
       ·have hk':(k:Int)<6:=by omega
        obtain⟨ax,cx,hx,_⟩:=qag G4.out.own;subst hx;have hlen:=G4.out.len;have HG5:=qaa (G4.out.below (al (Below.refl _ wr) (.cells #[.slice ax nx cx] 22)));have HB5:=qaa (B4.out.alloc (Nat.le_trans hb B4.out.size) (.cells #[.slice ax nx cx] 22));have HT5:=qaa (T4.out.trans (qa9.below (al (Below.refl _ wr) (.cells #[.slice ax nx cx] 22))));have HN5:Hid (∀j u,([.slice ax nx cx]:List Value)[j]? =some u→(wr.alloc (.cells #[.slice ax nx cx] 22)).cell? ((⟨wr.heap.size,0,none⟩:Addr).add j)=some u):=by
         intro j u hu
         match j,hu with
         |0,hu=>simp at hu;subst hu;simp[Addr.add]
        have HS5:Hid (base≤(wr.alloc (.cells #[.slice ax nx cx] 22)).heap.size):=Nat.le_trans hb HB5.out.size;have HNX:Hid (nx+1≤8589934600∧A4.length≤8008):=⟨by omega,by omega⟩;have HN8:Hid (∀(W:World) j u,([.int .i64 (-5-(i:Int))]:List Value)[j]? =some u→(W.alloc (.cells #[.int .i64 (-5-(i:Int))] 3)).cell? ((⟨W.heap.size,0,none⟩:Addr).add j)=some u):=by
         intro W j u hu
         match j,hu with
          |0,hu=>simp at hu;subst hu;simp[Addr.add]
        clear G4 B4 T4 hlen;go_wp2_with (first
         |(at_builtin;refine qac rfl (.tmp 104) (.tmp 106) 34 rfl base 22 i22 (.slice none 0 0) 1 24 Tryz.underlying34 hi22 hz220 hz221 hz222 rfl (by decide) _ A4.length (A4.map LD.v) rfl HG5.out.all ⟨wr.heap.size,0,none⟩ 1 1 [.slice ax nx cx] rfl rfl HN5.out (by simp[Value.oneCell']) (by decide) (by have:=HNX.out.2;unfold maxLen;omega) (by have:=HNX.out.2;omega) HS5.out ?_;intro v8 w8 h1 h2;have hk8:Kept (fun k=>base≤k) (wr.alloc (.cells #[.slice ax nx cx] 22)) w8:=(qe0 h2 HG5.out.all);have HT6:=qaa (HT5.out.trans (qa9.app h2 HG5.out.all (.inl rfl)));have HG6:=qaa (HG5.out.push qez (by decide) hk h1 h2);have HB6:=qaa (qcs HB5.out hk8 hb);have HG8:=qaa (HG6.out.below (al (Below.refl _ w8) (.cells #[.int .i64 (-5-(i:Int))] 3)));have HB8:=qaa (HB6.out.alloc (Nat.le_trans hb HB6.out.size) (.cells #[.int .i64 (-5-(i:Int))] 3));have HT8:=qaa (HT6.out.trans (qa9.below (al (Below.refl _ w8) (.cells #[.int .i64 (-5-(i:Int))] 3))));clear h1 h2 hk8 HG5 HB5 HN5 HT5 HT6 HG6 HB6)
         |(at_builtin;refine qac rfl (.tmp 108) (.tmp 111) 22 rfl base 3 i3 (.int .i64 0) 1 8 Tryz.underlying22 hi3 hz30 hz31 hz32 rfl (by decide) _ nx (rep mcP i nx) rfl HG8.out.own ⟨w8.heap.size,0,none⟩ 1 1 (mcP i) rfl rfl (HN8.out w8) (by simp[mcP,Value.oneCell']) (by decide) (by have:=HNX.out.1;unfold maxLen;omega) (by have:=HNX.out.1;omega) (Nat.le_trans hb HB8.out.size) ?_;intro v10 w10 h1 h2;have hk9:Kept (fun k=>base≤k) (w8.alloc (.cells #[.int .i64 (-5-(i:Int))] 3)) w10:=(qe0 h2 HG8.out.own);have HT7:=qaa (HT8.out.trans (qa9.app h2 HG8.out.own (.inr rfl)));have HG7:=qaa (HG8.out.grow qez (by decide) h1 h2);have HB7:=qaa (qcs HB8.out hk9 hb);clear h1 h2 hk9))
        go_roundw
        case rel=>exact⟨k+1,by omega,by go_num,_,_,by omega,HG7,HB7,HT7⟩
        case measure=>simp[RowKit.intOf];omega
       ·have hk':¬(k:Int)<6:=by omega
        have h6:k=6:=by omega
        have G5:=qaa (Kr.leave (by have:=G4.out;rw[h6] at this;exact this));clear G4 h6;go_wp2;go_roundw
        case rel=>exact⟨i+1,by omega,by go_num,A4,G5,B4,T4⟩
        case measure=>simp[RowKit.intOf];omega
     ·have h8:i=DL.length:=by omega
      have hlt':¬(i:Int)<DL.length:=by omega
      have G3:Hid (KrO 6 22 3 1 mcP wr base (.slice lao DL.length lcap) u7 DL A DL.length):=by have:=G2.out;rw[h8] at this;exact this
      clear G2 h8;go_wp2;go_meet;exact⟨_,A,rfl,G3,qaa (HS2.out.keepT T2.out (by decide) (by decide)),B2,qaa (T2.out _ _ _ _ (by decide) HB2.out)⟩
   case rest=>
    obtain⟨o3,A3,ho3,HG3,HS3,XB3,HB3⟩:=hcut;subst ho3;clear XB HS2 HL2 XB2;have XB:=XB3;go_upto_block 12 with fail
    go_cut [8,12,13,14] (fun o _ _ _ wx=>∃A,Hid (KrO 6 44 48 2 mcS wx base (.slice sao DS.length scap) o DS A DS.length)∧Hid (KrO 6 22 3 1 mcP wx base (.slice lao DL.length lcap) o3 DL A3 DL.length)∧Hid (Below base w wx)∧Hid (wx.heap[bk]? =some (.cells #[.slice lao DL.length lcap,.slice sao DS.length scap] 37 (0,0))))
    case first=>
     go_wp2;go_loopw [8,12] (fun o x wr=>∃i:Nat,i≤DS.length∧x=.int .i64 i∧∃A,Hid (KrO 6 44 48 2 mcS wr base (.slice sao DS.length scap) o DS A i)∧Hid (Below base w wr)∧Hid (qa9 (fun t=>t=44∨t=48) wc wr)) (fun _ x _=>DS.length-(RowKit.intOf x).toNat)
     case atStart=>exact⟨0,Nat.zero_le _,rfl,[],qaa (KrO.start HS3.out),XB,qaa (qa9.refl _ _)⟩
     case round=>
      obtain⟨i,hi1,rfl,A,G2,B2,T2⟩:=hrel;obtain⟨c0,c1⟩:=HBK.out wr (T2.out _ _ _ _ (by decide) HB3.out);by_cases hlt:i<DS.length
      ·have hlt':(i:Int)<DS.length:=by omega
       have hnn:=HNS.out i hlt;obtain⟨lo,lc,hlv,hlp⟩:=qag G2.out.row;obtain⟨lg,hlg⟩:=hlp (by omega);subst hlg;have c9:=qb5 G2.out.row hlv hlt rfl;simp only[Value.slice.injEq] at hlv;obtain⟨hlv1,_,_⟩:=hlv;rw[hlv1] at c1;have G3:=qaa (G2.out.enter hlt);clear G2;have fw:IntKind.i64.wrap (-5-(i:Int))= -5-(i:Int):=by simp[IntKind.wrap,IntKind.bits,IntKind.signed];omega
       generalize (DS[i]).n=n at *;generalize (DS[i]).v=xv at *;go_wp2;go_loopw [8,13,14] (fun o xx q wr=>∃k:Nat,k≤6∧q=.int .i64 k∧∃A nx,nx≤n+k∧Hid (Kr 6 44 48 2 mcS wr base (.slice sao DS.length scap) o DS A i k xx nx)∧Hid (Below base w wr)∧Hid (qa9 (fun t=>t=44∨t=48) wc wr)) (fun _ _ q _=>6-(RowKit.intOf q).toNat)
       case atStart=>exact⟨0,Nat.zero_le _,rfl,A,n,Nat.le_refl _,G3,B2,T2⟩
       case round=>
        obtain⟨k,hk1,rfl,A4,nx,hnx,G4,B4,T4⟩:=hrel;clear G3 B2 T2 c0 c1 c9;by_cases hk:k<6
        ·have hk':(k:Int)<6:=by omega
         obtain⟨ax,cx,hx,_⟩:=qag G4.out.own;subst hx;have hlen:=G4.out.len;have HG5:=qaa (G4.out.below (al (Below.refl _ wr) (.cells #[.slice ax nx cx] 44)));have HB5:=qaa (B4.out.alloc (Nat.le_trans hb B4.out.size) (.cells #[.slice ax nx cx] 44));have HT5:=qaa (T4.out.trans (qa9.below (al (Below.refl _ wr) (.cells #[.slice ax nx cx] 44))));have HN5:Hid (∀j u,([.slice ax nx cx]:List Value)[j]? =some u→(wr.alloc (.cells #[.slice ax nx cx] 44)).cell? ((⟨wr.heap.size,0,none⟩:Addr).add j)=some u):=by
          intro j u hu
          match j,hu with
          |0,hu=>simp at hu;subst hu;simp[Addr.add]
         have HS5:Hid (base≤(wr.alloc (.cells #[.slice ax nx cx] 44)).heap.size):=Nat.le_trans hb HB5.out.size;have HNX:Hid (nx+1≤8589934600∧A4.length≤8008):=⟨by omega,by omega⟩;have HN8:Hid (∀(W:World) j u,([.int .i64 (-5-(i:Int)),.int .i64 0]:List Value)[j]? =some u→(W.alloc (.cells #[.int .i64 (-5-(i:Int)),.int .i64 0] 48)).cell? ((⟨W.heap.size,0,none⟩:Addr).add j)=some u):=by
          intro W j u hu
          match j,hu with
           |0,hu=>simp at hu;subst hu;simp[Addr.add]
           |1,hu=>simp at hu;subst hu;simp[Addr.add]
         clear G4 B4 T4 hlen;go_wp2_with (first
          |(at_builtin;refine qac rfl (.tmp 133) (.tmp 135) 35 rfl base 44 i44 (.slice none 0 0) 1 24 Tryz.underlying35 hi44 hz440 hz441 hz442 rfl (by decide) _ A4.length (A4.map LD.v) rfl HG5.out.all ⟨wr.heap.size,0,none⟩ 1 1 [.slice ax nx cx] rfl rfl HN5.out (by simp[Value.oneCell']) (by decide) (by have:=HNX.out.2;unfold maxLen;omega) (by have:=HNX.out.2;omega) HS5.out ?_;intro v8 w8 h1 h2;have hk8:Kept (fun k=>base≤k) (wr.alloc (.cells #[.slice ax nx cx] 44)) w8:=(qe0 h2 HG5.out.all);have HT6:=qaa (HT5.out.trans (qa9.app h2 HG5.out.all (.inl rfl)));have HG6:=qaa (HG5.out.push qey (by decide) hk h1 h2);have HB6:=qaa (qcs HB5.out hk8 hb);have HG8:=qaa (HG6.out.below (al (Below.refl _ w8) (.cells #[.int .i64 (-5-(i:Int)),.int .i64 0] 48)));have HB8:=qaa (HB6.out.alloc (Nat.le_trans hb HB6.out.size) (.cells #[.int .i64 (-5-(i:Int)),.int .i64 0] 48));have HT8:=qaa (HT6.out.trans (qa9.below (al (Below.refl _ w8) (.cells #[.int .i64 (-5-(i:Int)),.int .i64 0] 48))));clear h1 h2 hk8 HG5 HB5 HN5 HT5 HT6 HG6 HB6)
          |(at_builtin;refine qac rfl (.tmp 137) (.tmp 141) 44 rfl base 48 i48 (.agg #[.int .i64 0,.int .i64 0]) 2 16 Tryz.underlying44 hi48 hz480 hz481 hz482 rfl (by decide) _ nx (rep mcS i nx) rfl HG8.out.own ⟨w8.heap.size,0,none⟩ 1 1 (mcS i) rfl rfl (HN8.out w8) (by simp[mcS,Value.oneCell']) (by decide) (by have:=HNX.out.1;unfold maxLen;omega) (by have:=HNX.out.1;omega) (Nat.le_trans hb HB8.out.size) ?_;intro v10 w10 h1 h2;have hk9:Kept (fun k=>base≤k) (w8.alloc (.cells #[.int .i64 (-5-(i:Int)),.int .i64 0] 48)) w10:=(qe0 h2 HG8.out.own);have HT7:=qaa (HT8.out.trans (qa9.app h2 HG8.out.own (.inr rfl)));have HG7:=qaa (HG8.out.grow qey (by decide) h1 h2);have HB7:=qaa (qcs HB8.out hk9 hb);clear h1 h2 hk9))
         go_roundw
         case rel=>exact⟨k+1,by omega,by go_num,_,_,by omega,HG7,HB7,HT7⟩
         case measure=>simp[RowKit.intOf];omega
        ·have hk':¬(k:Int)<6:=by omega
         have h6:k=6:=by omega
         have G5:=qaa (Kr.leave (by have:=G4.out;rw[h6] at this;exact this));clear G4 h6;go_wp2;go_roundw
         case rel=>exact⟨i+1,by omega,by go_num,A4,G5,B4,T4⟩
         case measure=>simp[RowKit.intOf];omega
      ·have h8:i=DS.length:=by omega
       have hlt':¬(i:Int)<DS.length:=by omega
       have G3:Hid (KrO 6 44 48 2 mcS wr base (.slice sao DS.length scap) u8 DS A DS.length):=by have:=G2.out;rw[h8] at this;exact this
       clear G2 h8;go_wp2;go_meet;exact⟨A,G3,qaa (HG3.out.keepT T2.out (by decide) (by decide)),B2,qaa (T2.out _ _ _ _ (by decide) HB3.out)⟩
    case rest=>
     obtain⟨A4,HG4,HG5,XB4,-⟩:=hcut;clear XB HG3 HS3 XB3;have XB:=XB4;go_upto_block 16 with fail
     go_cut [15,16] (fun _ _ wx=>wx=wc)
     case first=>
      obtain⟨ao,co,ho,hpos⟩:=qag HG5.out.all;subst ho;have hAl:A3.length≤8008:=by have:=HG5.out.len;omega
      go_wp2;go_loopw [15] (fun x wz=>∃j:Nat,j≤A3.length∧x=.int .i64 j∧wz=wc) (fun x _=>A3.length-(RowKit.intOf x).toNat)
      case atStart=>exact⟨0,Nat.zero_le _,rfl,rfl⟩
      case round=>
       obtain⟨j,hj1,rfl,rfl⟩:=hrel;by_cases hlj:j<A3.length
       ·have hlj':(j:Int)<A3.length:=by omega
        obtain⟨lo,rfl⟩:=hpos (by omega);have k0:=qb5 HG5.out.all rfl hlj rfl;have hvw:=(HG5.out.views j hlj).1;have hnm:=hvw.le;unfold maxLen at hnm;obtain⟨av,cv,hv,hcs⟩:=hvw.shape;rw[hv] at k0;generalize (A3[j]).n=n at *;have HCS:=qaa hcs;have HLJ:Hid (j+1≤A3.length):=hlj;clear hvw hv hcs;go_wp2;go_loopw [16] (fun x wz=>∃k:Nat,k≤n∧x=.int .i64 k∧wz=wr) (fun x _=>n-(RowKit.intOf x).toNat)
        case atStart=>exact⟨0,Nat.zero_le _,rfl,rfl⟩
        case round=>
         obtain⟨k,hk1,rfl,rfl⟩:=hrel;by_cases hk:k<n
         ·have hk':(k:Int)<n:=by omega
          obtain⟨g,rfl,hc⟩:=HCS.out.resolve_left (by omega);have e1:=hc (k*1) (by omega);rw[show(k*1)%1=0 by omega,Nat.mul_one,show(mcP (j/6))[0]? =some (.int .i64 (-5-((j:Int)/6))) by simp[mcP]] at e1;have hq6:(j:Int).tdiv 6=(j:Int)/6:=Int.tdiv_eq_ediv_of_nonneg (by omega);have fw6:IntKind.i64.wrap ((j:Int)/6)=(j:Int)/6:=by simp[IntKind.wrap,IntKind.bits,IntKind.signed];omega
          have fw7:IntKind.i64.wrap (-5-(j:Int)/6)= -5-(j:Int)/6:=by simp[IntKind.wrap,IntKind.bits,IntKind.signed];omega
          clear hc;go_wp2;go_roundw
          case rel=>exact⟨k+1,by omega,by go_num,by first|rfl|trivial⟩
          case measure=>simp[RowKit.intOf];omega
         ·have hk':¬(k:Int)<n:=by omega
          go_wp2;go_roundw
          case rel=>exact⟨j+1,HLJ.out,by go_num,by first|rfl|trivial⟩
          case measure=>have:=HLJ.out;simp[RowKit.intOf];omega
       ·have hlj':¬(j:Int)<A3.length:=by omega
        go_wp2;go_meet
        first|rfl|trivial
     case rest=>
      have hcut:=hcut.symm;subst hcut;obtain⟨ao,co,ho,hpos⟩:=qag HG4.out.all;subst ho;have hAl:A4.length≤8008:=by have:=HG4.out.len;omega
      go_wp2;go_loopw [17] (fun x wz=>∃j:Nat,j≤A4.length∧x=.int .i64 j∧wz=wc) (fun x _=>A4.length-(RowKit.intOf x).toNat)
      case atStart=>exact⟨0,Nat.zero_le _,rfl,rfl⟩
      case round=>
       obtain⟨j,hj1,rfl,rfl⟩:=hrel;by_cases hlj:j<A4.length
       ·have hlj':(j:Int)<A4.length:=by omega
        obtain⟨lo,rfl⟩:=hpos (by omega);have k0:=qb5 HG4.out.all rfl hlj rfl;have hvw:=(HG4.out.views j hlj).1;have hnm:=hvw.le;unfold maxLen at hnm;obtain⟨av,cv,hv,hcs⟩:=hvw.shape;rw[hv] at k0;generalize (A4[j]).n=n at *;have HCS:=qaa hcs;have HLJ:Hid (j+1≤A4.length):=hlj;clear hvw hv hcs;go_wp2;go_loopw [18] (fun x wz=>∃k:Nat,k≤n∧x=.int .i64 k∧wz=wr) (fun x _=>n-(RowKit.intOf x).toNat)
        case atStart=>exact⟨0,Nat.zero_le _,rfl,rfl⟩
        case round=>
         obtain⟨k,hk1,rfl,rfl⟩:=hrel;by_cases hk:k<n
         ·have hk':(k:Int)<n:=by omega
          obtain⟨g,rfl,hc⟩:=HCS.out.resolve_left (by omega);have e1:=hc (k*2) (by omega);rw[show(k*2)%2=0 by omega,show(mcS (j/6))[0]? =some (.int .i64 (-5-((j:Int)/6))) by simp[mcS]] at e1;have hq6:(j:Int).tdiv 6=(j:Int)/6:=Int.tdiv_eq_ediv_of_nonneg (by omega);have fw6:IntKind.i64.wrap ((j:Int)/6)=(j:Int)/6:=by simp[IntKind.wrap,IntKind.bits,IntKind.signed];omega
          have fw7:IntKind.i64.wrap (-5-(j:Int)/6)= -5-(j:Int)/6:=by simp[IntKind.wrap,IntKind.bits,IntKind.signed];omega
          clear hc;go_wp2;go_roundw
          case rel=>exact⟨k+1,by omega,by go_num,by first|rfl|trivial⟩
          case measure=>simp[RowKit.intOf];omega
         ·have hk':¬(k:Int)<n:=by omega
          go_wp2;go_roundw
          case rel=>exact⟨j+1,HLJ.out,by go_num,by first|rfl|trivial⟩
          case measure=>have:=HLJ.out;simp[RowKit.intOf];omega
       ·have hlj':¬(j:Int)<A4.length:=by omega
        go_wp2;go_ret;exact⟨rfl,XB.out⟩
end Go.Proofs.YtdgoilkgplnhfaaGreat

