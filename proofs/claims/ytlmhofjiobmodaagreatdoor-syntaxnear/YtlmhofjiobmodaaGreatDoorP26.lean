/-
  strings.Index, strings.Cut at one byte by their contracts, on lists. Condition: a text is no longer than a process can hold.
-/
import Derived.Test.YtlmhofjiobmodaaGreatDoorP22
import Derived.Test.YtlmhofjiobmodaaGreatDoorP24
import Derived.Test.YtlmhofjiobmodaaGreatDoorP25
set_option maxRecDepth 100000
set_option maxHeartbeats 16000000
namespace Go.Proofs.YtlmhofjiobmodaaGreatDoor
open Go.RowKit Go.Lib
theorem qig {c:UInt8}:∀(l:List UInt8),Lib.indexByte l c=match qbg c l with|none=> -1|some p=>(p.1.length:Int)
 |[]=>rfl
 |x::t=>by
  have ih:=qig (c:=c) t;simp only[Lib.indexByte,qbg];by_cases h:x=c
  ·simp[h]
  ·cases e:qbg c t with
   |none=>rw[e] at ih;simp at ih;simp[ih,h]
   |some p=>
    rw[e] at ih;simp at ih;simp only[ih,h,beq_iff_eq,if_false,Option.map_some,List.length_cons];rw[if_neg (by omega)];rfl
theorem qbj {l p r:List UInt8} {c:UInt8} (h:qbg c l=some (p,r)) (w:World):Calls Tryz.prog 225 #[.string ⟨l.toArray⟩,.string ⟨#[c]⟩] w fun e w'=>e=.returned (.int .i64 p.length)∧w'=w:=by
 have:=Tryz.strings_Index_one ⟨l.toArray⟩ c w;rw[show(⟨l.toArray⟩:ByteArray).data.toList=l from rfl,qig,h] at this;exact this
theorem index_none {l:List UInt8} {c:UInt8} (h:qbg c l=none) (w:World):Calls Tryz.prog 225 #[.string ⟨l.toArray⟩,.string ⟨#[c]⟩] w fun e w'=>e=.returned (.int .i64 (-1))∧w'=w:=by
 have:=Tryz.strings_Index_one ⟨l.toArray⟩ c w;rw[show(⟨l.toArray⟩:ByteArray).data.toList=l from rfl,qig,h] at this;exact this
theorem qnk {l p r:List UInt8} {c:UInt8} (h:qbg c l=some (p,r)) (w:World):Calls Tryz.prog 206 #[.string ⟨l.toArray⟩,.string ⟨#[c]⟩] w fun e w'=>e=.returned (.int .i64 p.length)∧w'=w:=by
 have:=Tryz.stringslite_Index_one ⟨l.toArray⟩ c w;rw[show(⟨l.toArray⟩:ByteArray).data.toList=l from rfl,qig,h] at this;exact this
theorem qnl {l:List UInt8} {c:UInt8} (h:qbg c l=none) (w:World):Calls Tryz.prog 206 #[.string ⟨l.toArray⟩,.string ⟨#[c]⟩] w fun e w'=>e=.returned (.int .i64 (-1))∧w'=w:=by
 have:=Tryz.stringslite_Index_one ⟨l.toArray⟩ c w;rw[show(⟨l.toArray⟩:ByteArray).data.toList=l from rfl,qig,h] at this;exact this
theorem qa2 {l p r:List UInt8} {c:UInt8} (h:qbg c l=some (p,r)):l.length=p.length+1+r.length:=by rw[(qdl h).1];simp;omega
theorem qe9 {l p r:List UInt8} {c:UInt8} (h:qbg c l=some (p,r)):(⟨l.toArray⟩:ByteArray).extract 0 p.length=⟨p.toArray⟩:=by
 apply ByteArray.ext;rw[(qdl h).1];simp
theorem qfa {l p r:List UInt8} {c:UInt8} (h:qbg c l=some (p,r)):(⟨l.toArray⟩:ByteArray).extract (p.length+1) l.length=⟨r.toArray⟩:=by
 apply ByteArray.ext;rw[qa2 h,(qdl h).1];simp
theorem qpt {l p r:List UInt8} {c:UInt8} (h:qbg c l=some (p,r)) (hl:l.length≤140737488351232) (w:World):Calls Tryz.prog 159 #[.string ⟨l.toArray⟩,.string ⟨#[c]⟩] w fun e w'=>e=.returned (.tuple #[.string ⟨p.toArray⟩,.string ⟨r.toArray⟩,.bool true])∧w'=w.drew:=by
 have hi:=qnk h;have e1:=qe9 h;have e2:=qfa h;have hc:=qa2 h;have H:Calls Tryz.prog 191 #[.string ⟨l.toArray⟩,.string ⟨#[c]⟩] w fun e w'=>e=.returned (.tuple #[.string ⟨p.toArray⟩,.string ⟨r.toArray⟩,.bool true])∧w'=w.drew:=by
  go_enter Tryz.func191,Tryz.ntmps191;go_wp2_with (go_at_call 206;refine(hi _).mono ?_;rintro e w2 ⟨rfl,rfl⟩);have z1:(0:Int)≤p.length:=by omega
  have z2:(p.length:Int)≤l.length:=by omega
  have z3:(0:Int)≤p.length+1:=by omega
  have z4:(p.length+1:Int)≤l.length:=by omega
  clear hc;go_region;go_wp2;go_ret3;exact⟨rfl,rfl⟩
 clear hi e1 e2 hc h;go_enter Tryz.func159,Tryz.ntmps159;go_wp2_with (go_at_call 191;refine H.mono ?_;rintro e w2 ⟨rfl,hw2⟩;subst hw2);go_ret3;exact⟨rfl,rfl⟩
theorem qpu {l:List UInt8} {c:UInt8} (h:qbg c l=none) (w:World):Calls Tryz.prog 159 #[.string ⟨l.toArray⟩,.string ⟨#[c]⟩] w fun e w'=>e=.returned (.tuple #[.string ⟨l.toArray⟩,.string ⟨#[]⟩,.bool false])∧w'=w:=by
 have hi:=qnl h;have H:Calls Tryz.prog 191 #[.string ⟨l.toArray⟩,.string ⟨#[c]⟩] w fun e w'=>e=.returned (.tuple #[.string ⟨l.toArray⟩,.string ⟨#[]⟩,.bool false])∧w'=w:=by
  go_enter Tryz.func191,Tryz.ntmps191;go_wp2_with (go_at_call 206;refine(hi _).mono ?_;rintro e w2 ⟨rfl,rfl⟩);go_ret3;exact⟨rfl,rfl⟩
 clear hi h;go_enter Tryz.func159,Tryz.ntmps159;go_wp2_with (go_at_call 191;refine H.mono ?_;rintro e w2 ⟨rfl,rfl⟩);go_ret3;exact⟨rfl,rfl⟩
end Go.Proofs.YtlmhofjiobmodaaGreatDoor

