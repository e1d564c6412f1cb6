/-
  strings.Builder's WriteRune (of a rune below 128), Len, Reset, String, at an address that lies in whatever block. Conditions: as in the text before.
-/
import Derived.Shelf.Strings.BuilderF
import Derived.Test.YtlmhofjiobmodaaGreatDoorP01
set_option maxRecDepth 100000
set_option maxHeartbeats 16000000
namespace Go.Proofs.YtlmhofjiobmodaaGreatDoor
open Go.RowKit Go.Lib
section
variable {w w':World} {base b o:Nat} {e:TypeId} {cs:Array Value} {l:List UInt8}
theorem qfi (c:UInt8) (hc:c.toNat<128) (v:Value) (w:World) (hr:w.ownsRow base 5 1 v l.length (Lib.byteCells l)) (hb:base≤w.heap.size) (hl:l.length≤140737488351232):
 Calls Tryz.prog 154 #[v,.int .i32 (c.toNat:Int)] w fun x w'=>∃v' w5,x=.returned v'∧Below w.heap.size w w5∧w'.ownsRow base 5 1 v' (l.length+1) (Lib.byteCells (l++[c]))∧qfh w5 w' v v':=by
 obtain⟨i5,hi5,En,Eo,Ep⟩:=info_parts Tryz.info5n;have P1:=qaa (own_below hr (al (Below.refl _ _) (.cells #[.int .u8 (c.toNat:Int)] 5)));have P2:=qaa (qfc w c);have X5:=qaa (al (Below.refl w.heap.size w) (.cells #[.int .u8 (c.toNat:Int)] 5));have P3:Hid (base≤(w.alloc (.cells #[.int .u8 (c.toNat:Int)] 5)).heap.size):=by
  have:=X5.out.size;unfold Hid;omega
 have e1:Hid (Lib.byteCells l++[.int .u8 (c.toNat:Int)]=Lib.byteCells (l++[c])):=by simp[Lib.byteCells,Hid]
 obtain⟨ao,cp,he,_⟩:=qad hr;subst he;have h1:IntKind.u32.wrap (c.toNat:Int)=(c.toNat:Int):=by simp[IntKind.wrap,IntKind.bits,IntKind.signed];omega
 have h2:IntKind.u8.wrap (c.toNat:Int)=(c.toNat:Int):=by simp[IntKind.wrap,IntKind.bits,IntKind.signed];omega
 have h3:(c.toNat:Int)≤127:=by omega
 clear hr;generalize hz:(c.toNat:Int)=z at *;clear hz;go_enter Tryz.func154,Tryz.ntmps154;go_wp2_with (at_builtin;refine qa3 rfl (.tmp 8) (.tmp 11) 64 rfl base 5 i5 (.int .u8 0) 1 1 Tryz.underlying64 hi5 En Eo Ep rfl (by decide) _ l.length _ rfl P1.out ⟨w.heap.size,0,none⟩ 1 1 [(.int .u8 z)] rfl rfl P2.out (by simp[Value.oneCell']) (by decide) (by unfold maxLen;omega) (by omega) P3.out ?_;intro v6 w6 q1 q2;have Q1:=qaa q1;have Q2:=qaa q2;clear q1 q2);go_ret;exact⟨v6,_,rfl,X5.out,by rw[←e1.out];exact Q1.out,Q2.out⟩
theorem BuB.rune (h:BuB w base b o e cs l) (c:UInt8) (hc:c.toNat<128) (hb:base≤w.heap.size) (hl:l.length≤140737488351232):
 Calls Tryz.prog 127 #[.pointer (some ⟨b,o,none⟩),.int .i32 (c.toNat:Int)] w fun x w'=>x=.returned (.tuple #[.int .i64 1,.nilIface])∧(∃v',BuB w' base b o e ((cs.set! o (.pointer (some ⟨b,o,none⟩))).set! (o+1) v') (l++[c]))∧KpO 5 base b w w':=by
 have HC:=qaa (h.copy hb);clear h;go_enter Tryz.func127,Tryz.ntmps127;go_upto_region 2 with(go_at_call 153;refine HC.out.mono ?_;rintro x w1 ⟨rfl,h1,k1,hs1⟩;have HB:=qaa h1;have HK:=qaa k1;have HS:=qaa hs1;clear h1 k1 hs1)
 clear HC;obtain⟨v,hv,hr⟩:=HB.out.row;obtain⟨d0,d1,d2,d3⟩:=HB.out.cells;rw[hv] at d1;have HV:=qaa hv;have HR:=qaa hr;obtain⟨ao,cp,he,_⟩:=qad hr;subst he;have HA:=qaa (qfi c hc _ w1 hr (by have:=HS.out;omega) hl);have Ed:Hid (∀v' w5 w6,Below w1.heap.size w1 w5→w6.ownsRow base 5 1 v' (l.length+1) (Lib.byteCells (l++[c]))→qfh w5 w6 (.slice ao l.length cp) v'→BuB (w6.setCell ⟨b,o+1,none⟩ v') base b o e ((cs.set! o (.pointer (some ⟨b,o,none⟩))).set! (o+1) v') (l++[c])∧KpO 5 base b w1 (w6.setCell ⟨b,o+1,none⟩ v')∧w6.frozen? ⟨b,o+1,none⟩=false∧(∃y,w6.cell? ⟨b,o+1,none⟩=some y)):=fun v' w5 w6 x5 q1 q2=>by
  have:=HB.out.put (l':=l++[c]) x5 (by simpa using q1) q2 HR.out;have hc:=cell_of_row _ _ (o+1) _ _ _ this.2.2;rw[HV.out] at hc;exact⟨this.1,this.2.1,frozen_of_row _ _ _ _ _ this.2.2,_,hc⟩
 have f1:IntKind.i64.wrap ((l.length:Int)+1-(l.length:Int))=1:=by rw[show(l.length:Int)+1-(l.length:Int)=1 by omega];rfl
 have f2:IntKind.i64.wrap 1=1:=rfl;clear hr hv;go_upto_region 4 with(go_at_call 154;refine HA.out.mono ?_;rintro x w6 ⟨v',w5,rfl,x5,q1,q2⟩;obtain⟨ao6,cp6,Ld,_⟩:=qad q1;subst Ld;obtain⟨hB,hK,hF,y,hy⟩:=Ed.out _ w5 w6 x5 q1 q2;have HB2:=qaa hB;have Bn:=qaa hK;clear x5 q1 q2 hB hK)
 clear Ed HA d0 d1 d2 d3 hF hy;obtain⟨w7,hw7⟩:∃w7,w7=w6.setCell ⟨b,o+1,none⟩ (.slice ao6 (l.length+1) cp6):=⟨_,rfl⟩;rw[←hw7] at HB2 Bn ⊢;clear hw7;obtain⟨d0,d1,d2,d3⟩:=HB2.out.cells;have h9:=HB2.out.ho;simp only[Array.set!_eq_setIfInBounds,Array.size_setIfInBounds] at h9;rw[Array.set!_eq_setIfInBounds,Array.getElem?_setIfInBounds_self_of_lt (by simpa using h9)] at d1;clear d0 h9;go_wp2;go_ret2;exact⟨rfl,⟨_,HB2.out⟩,HK.out.trans Bn.out⟩
theorem BuB.len (h:BuB w base b o e cs l):Calls Tryz.prog 126 #[.pointer (some ⟨b,o,none⟩)] w fun x w'=>x=.returned (.int .i64 (l.length:Int))∧w'=w:=by
 obtain⟨v,hv,hr⟩:=h.row;obtain⟨d0,d1,d2,d3⟩:=h.cells;rw[hv] at d1;obtain⟨ao,cp,he,_⟩:=qad hr;subst he;clear hv hr h;go_enter Tryz.func126,Tryz.ntmps126;go_wp2;go_ret;exact⟨rfl,rfl⟩
end
end Go.Proofs.YtlmhofjiobmodaaGreatDoor

