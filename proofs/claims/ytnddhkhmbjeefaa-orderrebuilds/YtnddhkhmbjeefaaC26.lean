/-
  Loops over functions whose rounds are told of what they are handed in memory: an iterator's contract with what its owner may turn and what it turns itself; the owner's loop. Condition: no round ends the loop.
-/
import Derived.RangeFuncNested
import Derived.RangeFuncBound
import Derived.Shelf.RegionOpen
import Derived.OwnWalkIn
import Derived.TacticsInMore
import Derived.LoopNIn
import Derived.LoopIn
import Derived.Test.YtnddhkhmbjeefaaC25
import Derived.Maps.OwnIn
namespace Go.Proofs.Ytnddhkhmbjeefaa
open Go.RowKit Go.Lib Go.Maps
theorem lt_of_obj {w:World} {b:Nat} {o:Obj} (h:w.heap[b]? =some o):b<w.heap.size:=(Array.getElem?_eq_some_iff.1 h).1
def SoftO (o:Option Obj):Prop:=∀(cs:Array Value) (t:TypeId) (z:Nat×Nat),o=some (.cells cs t z)→((t=70∨t=147)∧∀u:Value,cs[0]? =some u→∃a n c,u=Value.slice a n c)∨(t=3∧∀(j:Nat) (u:Value),cs[j]? =some u→∃v,u=Value.int .i64 v)
abbrev Soft (w:World) (b:Nat):Prop:=SoftO w.heap[b]?
def Rnd (Q:Nat→Prop) (w w':World):Prop:=Kept (fun b=>Q b∧Soft w b) w w'
def Its (B:Nat) (Q:Nat→Prop) (w w':World):Prop:=Kept (fun b=>(B≤b∧¬Q b)∧Soft w b) w w'
section
variable {Q Q':Nat→Prop} {B B':Nat} {w w' w'':World}
theorem Rnd.refl:Rnd Q w w:=Kept.refl _ _
theorem Rnd.trans (h:Rnd Q w w') (k:Rnd Q w' w''):Rnd Q w w'':=
 ⟨k.os.trans h.os,k.tape.trans h.tape,k.output.trans h.output,Nat.le_trans h.size k.size,fun b hb hn=>by
   have e:=h.block b hb hn
   refine(k.block b (Nat.lt_of_lt_of_le hb h.size) (fun⟨h1,h2⟩=>hn ⟨h1,?_⟩)).trans e
   show SoftO w.heap[b]?
   rw[←e]
   exact h2⟩
theorem Rnd.mono (h:Rnd Q w w') (hq:∀b,b<w.heap.size→Q b→Q' b):Rnd Q' w w':=⟨h.os,h.tape,h.output,h.size,fun b hb hn=>h.block b hb (fun⟨h1,h2⟩=>hn ⟨hq b hb h1,h2⟩)⟩
theorem Rnd.trans_new (h:Rnd Q w w') (k:Rnd Q' w' w'') (hq:∀b,b<w.heap.size→Q' b→Q b):Rnd Q w w'':=
 ⟨k.os.trans h.os,k.tape.trans h.tape,k.output.trans h.output,Nat.le_trans h.size k.size,fun b hb hn=>by
   have e:=h.block b hb hn
   refine(k.block b (Nat.lt_of_lt_of_le hb h.size) (fun⟨h1,h2⟩=>hn ⟨hq b hb h1,?_⟩)).trans e
   show SoftO w.heap[b]?
   rw[←e]
   exact h2⟩
theorem Rnd.of_below (h:Below w.heap.size w w'):Rnd Q w w':=Kept.of_below h
theorem Its.of_below (h:Below w.heap.size w w'):Its B Q w w':=Kept.of_below h
theorem Its.rnd (h:Its B Q w w'):Rnd (fun b=>B≤b∧¬Q b) w w':=h
theorem Rnd.its (h:Rnd Q' w w') (hq:∀b,Q' b→B≤b∧¬Q b):Its B Q w w':=Rnd.mono h (fun b _ hb=>hq b hb)
theorem Rnd.any (h:Rnd Q w w'):Kept (fun b=>Soft w b) w w':=Kept.mono h (fun _ hb=>hb.2)
theorem Rnd.belowN (h:Rnd Q w w') {n:Nat} (hn:n≤w.heap.size) (hq:∀b,Q b→n≤b):Below n w w':=Kept.below h hn (fun b hb=>hq b hb.1)
theorem Rnd.same (h:Rnd Q w w') {b:Nat} (hb:b<w.heap.size) (hq:¬Q b):w'.heap[b]? =w.heap[b]? :=h.block b hb (fun hh=>hq hh.1)
theorem soft_other {o:Obj} {b:Nat} (h:w.heap[b]? =some o) (ho:∀cs t z,o≠.cells cs t z):Soft w b:=fun cs t z e=>by
 rw[h] at e
 exact absurd (Option.some.inj e) (ho cs t z)
theorem Rnd.putObj {b:Nat} (o:Obj) (hq:Q b) (hs:Soft w b):Rnd Q w (w.putObj b o):=⟨rfl,rfl,rfl,by simp,fun k _ hn=>World.putObj_heap_other (fun e=>hn (by rw[e];exact⟨hq,hs⟩))⟩
theorem Rnd.setCell {p:Addr} (hq:Q p.block) (hs:Soft w p.block) (u:Value):Rnd Q w (w.setCell p u):=(Kept.refl _ w).setCell ⟨hq,hs⟩ u
theorem DgX.soft {ra:Option Addr} {lb lc:Nat} {R:List Int} {Ls:List LA} (h:DgX w B ra lb lc R Ls) (hk:Kept (fun b=>Soft w b) w w'):DgX w' B ra lb lc R Ls:=by
 have hblk:∀ {b:Nat} {cs:Array Value} {t:TypeId},w.heap[b]? =some (.cells cs t (0,0))→t≠70→t≠147→t≠3→w'.heap[b]? =some (.cells cs t (0,0)):=fun {b cs t} h1 h2 h3 h4=>(hk.block b (lt_of_block h1) (fun hs=>by
  rcases hs cs t (0,0) h1 with⟨h5|h5,_⟩|⟨h5,_⟩
  ·exact h2 h5
  ·exact h3 h5
  ·exact h4 h5)).trans h1
 have hcell:∀ {b j:Nat} {u:Value},w.cell? ⟨b,j,none⟩=some u→∃cs t z,w.heap[b]? =some (.cells cs t z)∧cs[j]? =some u:=fun {b j u} hc=>by
  simp only[World.cell?] at hc
  split at hc
  ·next cs t z he=>exact⟨cs,t,z,he,by simpa using hc⟩
  ·cases hc
 have hBw:=h.hB
 have hlt:=h.lay.lt
 have RT:R=[]∨∃b off,(ra=some ⟨b,off,none⟩∧off=0)∧b<B∧∀i (h:i<R.length),w'.cell? ⟨b,off+i,none⟩=some (.int .i32 R[i]):=by
  by_cases hR:R=[]
  ·exact .inl hR
  ·obtain⟨b,off,⟨e,rfl⟩,hb,hi⟩:=h.rts.resolve_left hR
   have hn:¬Soft w b:=fun hs=>by
    obtain⟨cs,t,z,h1,h2⟩:=hcell (hi 0 (List.length_pos_iff.2 hR))
    rcases hs cs t z h1 with⟨_,h3⟩|⟨_,h3⟩
    ·obtain⟨_,_,_,e3⟩:=h3 _ h2
     cases e3
    ·obtain⟨_,e3⟩:=h3 _ _ h2
     cases e3
   exact .inr ⟨b,0,⟨e,rfl⟩,hb,fun i hl=>(hk.cell (p:=⟨b,0+i,none⟩) (by show b<_;omega) hn).trans (hi i hl)⟩
 refine⟨RT,⟨h.lay.lt,fun i hi=>?_,fun x hx=>?_⟩,h.c1,h.c2,Nat.le_trans h.hB hk.size⟩
 ·have hn:¬Soft w lb:=fun hs=>by
   have h00:=h.lay.cl 0 (by omega)
   obtain⟨cs,t,z,h1,h2⟩:=hcell h00.1
   obtain⟨cs',t',z',h1',h2'⟩:=hcell h00.2
   rw[h1] at h1'
   cases h1'
   rcases hs cs t z h1 with⟨_,h3⟩|⟨_,h3⟩
   ·obtain⟨_,_,_,e3⟩:=h3 _ h2
    cases e3
   ·obtain⟨_,e3⟩:=h3 _ _ h2'
    cases e3
  exact⟨(hk.cell (p:=⟨lb,(0+i)*2,none⟩) (by show lb<_;omega) hn).trans (h.lay.cl i hi).1,(hk.cell (p:=⟨lb,(0+i)*2+1,none⟩) (by show lb<_;omega) hn).trans (h.lay.cl i hi).2⟩
 ·have y:=h.lay.ly x hx
  obtain⟨cs,h1,h2⟩:=y.blk
  refine⟨⟨cs,hblk h1 (by decide) (by decide) (by decide),h2⟩,y.lt,fun z hz=>⟨?_,(y.row z hz).2⟩,y.few⟩
  obtain⟨cs',h3,h4⟩:=(y.row z hz).1
  exact⟨cs',hblk h3 (by decide) (by decide) (by decide),h4⟩
end
structure Stb {α:Type} (B:Nat) (J:List α→(Nat→Prop)→World→Prop):Prop where
 its:∀xs Q w w',J xs Q w→Its B Q w w'→J xs Q w'
 low:∀xs Q w,J xs Q w→∀b,Q b→b<w.heap.size
def YOk {α:Type} (l:Nat) (enc:α→Array Value) (Px:Nat→α→World→Prop) (J:List α→(Nat→Prop)→World→Prop):Prop:=
 ∀xs Q x w,J xs Q w→Px xs.length x w→YieldAt Fence.wide 0 Try.prog l (enc x) w fun e w'=>e=.returned (.bool true)∧∃Q',J (xs++[x]) Q' w'∧Rnd Q w w'∧∀b,Q' b→Q b∨w.heap.size≤b
def ItC {α:Type} (g:Nat) (lb:Array Value) (enc:α→Array Value) (Px:Nat→α→World→Prop) (S:List α→Prop) (Ow:(Nat→Prop)→World→Prop):Prop:=
 ∀(l:Nat) (J:List α→(Nat→Prop)→World→Prop) (Q:Nat→Prop) (w:World),Stb w.heap.size J→YOk l enc Px J→J [] Q w→Ow Q w→
  Calls Try.prog g (#[.func (.yield l) #[] #[]]++lb) w fun e w'=>(∃v,e=.returned v)∧∃xs Q',S xs∧J xs Q' w'
def rdPost {α:Type} (I:List α→(Nat→Prop)→World→Prop) (Q:Nat→Prop) (xs:List α) (x:α) (w:World):Exit→Act→World→Prop
 |.normal,_,w'=>∃Q',I (xs++[x]) Q' w'∧Rnd Q w w'∧∀b,Q' b→Q b∨w.heap.size≤b
 |_,_,_=>False
theorem range_wp {α:Type} {g:Operand} {ps:Array Tmp} {assign body:Code} {Qp:Exit→Act→World→Prop} {a:Act} {w:World} {gf:Nat} {lb:Array Value} (hg:a.eval g=.func (.func gf) #[] lb) (eg:∀args w,(callFunc gf args).run Try.prog w=.ok (.enter gf args) w)
 {enc:α→Array Value} {Px:Nat→α→World→Prop} {S:List α→Prop} {Ow:(Nat→Prop)→World→Prop} (hit:ItC gf lb enc Px S Ow) (hps:∀x,(enc x).size=ps.size)
 (I:List α→(Nat→Prop)→World→Prop) (Q0:Nat→Prop) (hI:Stb w.heap.size I) (h0:I [] Q0 w) (hOw:∀Q w',(∀b,Q b→Q0 b∨w.heap.size≤b)→Below w.heap.size w w'→Ow Q w')
 (hPx:∀k x A A',Px k x A→Kept (fun b=>Soft A b) A A'→Px k x A')
 (Ax:α→Act→World→Prop) (hAx:∀x a' l A A',Ax x a' A→(∃r,A.heap[l]? =some (.loop r))→Kept (fun b=>b=l) A A'→Ax x a' A')
 (hassign:∀l xs Q x W K,I xs Q W→Px xs.length x W→(∀a' W',Below W.heap.size W W'→Ax x a' W'→K a' W')→
   assign.wpIn (Fence.wide.inRound l) 0 Try.prog (Exit.then K (fun _ _ _=>False)) { tmps:=(ps.zip (enc x)).foldl (fun t (p,v)=>t.setIfInBounds p v) a.tmps,defers:=[] } W)
 (hbody:∀l xs Q x a' W,I xs Q W→Px xs.length x W→Ax x a' W→body.wpIn (Fence.wide.inRound l) 0 Try.prog (rdPost I Q xs x W) a' W)
 (hdone:∀D xs Q W,w.heap.size≤D→¬Q D→S xs→I xs Q W→W.heap[D]? =some (.deferred (some []))→Qp .normal { a with defers:={ target:=.collected D,args:=#[] }::a.defers } W):
 (Code.rangeFunc g ps assign body).wp Try.prog Qp a w:=by
 refine(wpIn_wide (n:=0)).1 (wpIn_rangeFunc ?_)
 intro fn hfn
 obtain⟨rec,hrec⟩:∃rec:LoopState→Option Code→Loop,rec=fun st pe=>{ state:=st,pending:=pe,fn,tmps:=a.tmps,params:=ps,assign,body,defers:=w.heap.size }:=⟨_,rfl⟩
 obtain⟨W1,hW1⟩:∃W1,(w.alloc (.deferred (some []))).alloc (.loop (rec .ready none))=W1:=⟨_,rfl⟩
 have hb1:Below w.heap.size w W1:=by rw[←hW1];exact al (al (Below.refl _ _) _) _
 have hL1:W1.heap[w.heap.size+1]? =some (.loop (rec .ready none)):=by
  rw[←hW1]
  have:=World.alloc_heap_new (w.alloc (.deferred (some []))) (.loop (rec .ready none))
  rwa [World.size_alloc] at this
 have hD1:W1.heap[w.heap.size]? =some (.deferred (some [])):=by
  rw[←hW1]
  exact((al (Below.refl _ (w.alloc (.deferred (some [])))) (.loop (rec .ready none))).block _ (by simp)).trans (World.alloc_heap_new w _)
 refine⟨w.heap.size+1,[{ target:=.collected w.heap.size,args:=#[] }],W1,{ target:=.fn (.func gf) lb,args:=#[.func (.yield (w.heap.size+1)) #[] #[]] },W1,gf,#[.func (.yield (w.heap.size+1)) #[] #[]]++lb,W1,?_,?_,fun _ _=>trivial,?_,(fun h=>by cases h),?_⟩
 ·rw[←hW1,hrec];exact run_enterLoop_outer _ _ _ _ _
 ·simp only[resolve,hg]
  simp[go_sem]
 ·simp[invoke,go_sem,eg]
 ·refine callsIn_wide.2 ?_
  have hne:∀(r:Loop) cs t z,Obj.loop r≠.cells cs t z:=fun _ _ _ _ h=>by cases h
  have hlow0:=hI.low _ _ _ h0
  refine(hit (w.heap.size+1) (fun xs Q W=>∃Qi,I xs Qi W∧(∀b,Q b↔Qi b∨b=w.heap.size∨b=w.heap.size+1)∧¬Qi w.heap.size∧¬Qi (w.heap.size+1)∧W.heap[w.heap.size+1]? =some (.loop (rec .ready none))∧W.heap[w.heap.size]? =some (.deferred (some []))) (fun b=>Q0 b∨b=w.heap.size∨b=w.heap.size+1) W1 ⟨?_,?_⟩ ?_ ?_ ?_).mono ?_
  ·rintro xs Q A A' ⟨Qi,h1,h2,h3,h4,h5,h6⟩ hk
   have hsz:w.heap.size≤W1.heap.size:=hb1.size
   refine⟨Qi,hI.its _ _ _ _ h1 (Rnd.its (Its.rnd hk) (fun b hb=>⟨by have:=hb.1;omega,fun hq=>hb.2 ((h2 b).2 (.inl hq))⟩)),h2,h3,h4,?_,?_⟩
   ·exact((Its.rnd hk).same (lt_of_obj h5) (fun hb=>hb.2 ((h2 _).2 (.inr (.inr rfl))))).trans h5
   ·exact((Its.rnd hk).same (lt_of_obj h6) (fun hb=>hb.2 ((h2 _).2 (.inr (.inl rfl))))).trans h6
  ·rintro xs Q A ⟨Qi,h1,h2,h3,h4,h5,h6⟩ b hb
   rcases (h2 b).1 hb with hb|rfl|rfl
   ·exact hI.low _ _ _ h1 b hb
   ·exact lt_of_obj h6
   ·exact lt_of_obj h5
  ·rintro xs Q x W ⟨Qi,h1,h2,h3,h4,h5,h6⟩ hx
   have hy:=run_yield (P:=Try.prog) (args:=enc x) h5 (by rw[hrec];exact hps x)
   rw[hrec] at hy
   refine⟨fn,_,assign,body,hy,roundIn_of_wpIn hfn (hassign _ xs Qi x W _ h1 hx ?_)⟩
   clear hy
   intro a' Wa hba hax
   have hlW:w.heap.size+1<W.heap.size:=lt_of_obj h5
   have h5a:=(hba.block _ hlW).trans h5
   have h6a:=(hba.block _ (lt_of_obj h6)).trans h6
   refine⟨_,run_beginRound h5a (by rw[hrec]),?_⟩
   have hla:w.heap.size+1<Wa.heap.size:=lt_of_obj h5a
   have ra:Rnd (fun b=>b=w.heap.size+1) Wa (Wa.putObj (w.heap.size+1) (.loop { rec .ready none with state:=.busy })):=Rnd.putObj _ rfl (soft_other h5a (hne _))
   have h5b:(Wa.putObj (w.heap.size+1) (.loop { rec .ready none with state:=.busy })).heap[w.heap.size+1]? =some (.loop { rec .ready none with state:=.busy }):=World.putObj_heap_same hla
   have h6b:(Wa.putObj (w.heap.size+1) (.loop { rec .ready none with state:=.busy })).heap[w.heap.size]? =some (.deferred (some [])):=(World.putObj_heap_other (by omega)).trans h6a
   have hIa:I xs Qi Wa:=hI.its _ _ _ _ h1 (Its.of_below hba)
   have hIb:=hI.its _ _ _ _ hIa (ra.its (fun b hb=>⟨by omega,by rw[hb];exact h4⟩))
   have hxb:=hPx _ _ _ _ (hPx _ _ _ _ hx (Kept.of_below hba)) ra.any
   have haxb:=hAx x a' _ _ _ hax ⟨_,h5a⟩ (Kept.mono ra (fun b hb=>hb.1))
   have hsb:W.heap.size≤(Wa.putObj (w.heap.size+1) (.loop { rec .ready none with state:=.busy })).heap.size:=Nat.le_trans hba.size ra.size
   generalize Wa.putObj (w.heap.size+1) (.loop { rec .ready none with state:=.busy })=Wb at *
   refine wpIn_mono (hbody _ xs Qi x a' Wb hIb hxb haxb) ?_
   rintro e a3 W3 hp
   cases e with
   |normal=>
    obtain⟨Q',i3,r3,q3⟩:=hp
    have hnl:¬Q' (w.heap.size+1):=fun h=>by
     rcases q3 _ h with h|h
     ·exact h4 h
     ·omega
    have hnD:¬Q' w.heap.size:=fun h=>by
     rcases q3 _ h with h|h
     ·exact h3 h
     ·omega
    have h5c:=(r3.same (by omega) h4).trans h5b
    have h6c:=(r3.same (by omega) h3).trans h6b
    have hend:=run_endRound (P:=Try.prog) none h5c
    have rc:Rnd (fun b=>b=w.heap.size+1) W3 (W3.putObj (w.heap.size+1) (.loop (rec .ready none))):=Rnd.putObj _ rfl (soft_other h5c (hne _))
    refine⟨_,W3.putObj (w.heap.size+1) (.loop (rec .ready none)),by rw[hrec] at hend ⊢;exact hend,rfl,fun b=>Q' b∨b=w.heap.size∨b=w.heap.size+1,⟨Q',hI.its _ _ _ _ i3 (rc.its (fun b hb=>⟨by omega,by rw[hb];exact hnl⟩)),fun b=>Iff.rfl,hnD,hnl,World.putObj_heap_same (lt_of_obj h5c),(World.putObj_heap_other (by omega)).trans h6c⟩,?_,?_⟩
    ·have r1:Rnd Q W Wb:=(Rnd.of_below hba).trans_new ra (fun b _ hb=>(h2 b).2 (.inr (.inr hb)))
     exact(r1.trans_new r3 (fun b _ hb=>(h2 b).2 (.inl hb))).trans_new rc (fun b _ hb=>(h2 b).2 (.inr (.inr hb)))
    ·rintro b (hb|hb|hb)
     ·rcases q3 b hb with h|h
      ·exact .inl ((h2 b).2 (.inl h))
      ·exact .inr (Nat.le_trans hsb h)
     ·exact .inl ((h2 b).2 (.inr (.inl hb)))
     ·exact .inl ((h2 b).2 (.inr (.inr hb)))
   |ret=>exact hp.elim
   |exit id=>exact hp.elim
   |goto t=>exact hp.elim
   |panic ch=>exact hp.elim
   |outgrown=>exact hp.elim
  ·exact⟨Q0,hI.its _ _ _ _ h0 (Its.of_below hb1),fun b=>Iff.rfl,fun h=>by have:=hlow0 _ h;omega,fun h=>by have:=hlow0 _ h;omega,hL1,hD1⟩
  ·exact hOw _ _ (fun b hb=>by
    rcases hb with h|h|h
    ·exact .inl h
    ·exact .inr (by omega)
    ·exact .inr (by omega)) hb1
  ·rintro e W2 ⟨⟨v,rfl⟩,xs,Q,hS,Qi,h1,h2,h3,h4,h5,h6⟩
   have rc:Rnd (fun b=>b=w.heap.size+1) W2 (W2.putObj (w.heap.size+1) (.loop { rec .ready none with state:=.exhausted })):=Rnd.putObj _ rfl (soft_other h5 (hne _))
   refine⟨none,W2.putObj (w.heap.size+1) (.loop { rec .ready none with state:=.exhausted }),by have:=run_endLoop (P:=Try.prog) h5 (by rw[hrec];simp);rw[hrec] at this ⊢;exact this,?_⟩
   exact hdone _ xs Qi _ (Nat.le_refl _) h3 hS (hI.its _ _ _ _ h1 (rc.its (fun b hb=>⟨by omega,by rw[hb];exact h4⟩))) ((World.putObj_heap_other (by omega)).trans h6)
structure Mv9 (w:World) (Q:Nat→Prop) (b:Nat) (ra:Option Addr) (rc:Nat) (R:List Int) (lb lc:Nat) (Ls:List LA) (p:Nat) (s most:Int):Prop where
 b0:w.heap[b]? =some (.cells #[.slice ra R.length rc,.slice (some ⟨lb,0,none⟩) Ls.length lc] 70 (0,0))
 b1:w.heap[b+1]? =some (.cells #[.int .i64 (p:Int)] 3 (0,0))
 b2:w.heap[b+2]? =some (.cells #[.int .i64 s] 3 (0,0))
 b3:w.heap[b+3]? =some (.cells #[.int .i64 most] 3 (0,0))
 dg:DgX w w.heap.size ra lb lc R Ls
 nq:∀k,b≤k→k≤b+3→¬Q k
section
variable {w w':World} {Q Q':Nat→Prop} {b:Nat} {ra:Option Addr} {rc:Nat} {R:List Int} {lb lc:Nat} {Ls:List LA} {p:Nat} {s most:Int}
theorem Mv9.lt (h:Mv9 w Q b ra rc R lb lc Ls p s most):b+3<w.heap.size:=lt_of_obj h.b3
theorem Mv9.rnd {Z:Nat→Prop} (h:Mv9 w Q b ra rc R lb lc Ls p s most) (k:Rnd Z w w') (hz:∀k,b≤k→k≤b+3→¬Z k) (hq:∀k,b≤k→k≤b+3→¬Q' k):Mv9 w' Q' b ra rc R lb lc Ls p s most:=by
 have hlt:=h.lt
 exact⟨(k.same (by omega) (hz _ (by omega) (by omega))).trans h.b0,(k.same (by omega) (hz _ (by omega) (by omega))).trans h.b1,(k.same (by omega) (hz _ (by omega) (by omega))).trans h.b2,(k.same (by omega) (hz _ (by omega) (by omega))).trans h.b3,(h.dg.soft k.any).mono k.size (Nat.le_refl _),hq⟩
theorem Mv9.cells (h:Mv9 w Q b ra rc R lb lc Ls p s most):w.cell? ⟨b,1,none⟩=some (.slice (some ⟨lb,0,none⟩) Ls.length lc)∧w.cell? ⟨b+1,0,none⟩=some (.int .i64 (p:Int))∧w.cell? ⟨b+2,0,none⟩=some (.int .i64 s)∧w.cell? ⟨b+3,0,none⟩=some (.int .i64 most):=
 ⟨by rw[cell_of_row w _ _ _ _ _ h.b0];rfl,by rw[cell_of_row w _ _ _ _ _ h.b1];rfl,by rw[cell_of_row w _ _ _ _ _ h.b2];rfl,by rw[cell_of_row w _ _ _ _ _ h.b3];rfl⟩
end
structure MvI (w wr:World) (nc b:Nat) (ra:Option Addr) (rc:Nat) (R:List Int) (lb lc:Nat) (Ls:List LA) (p:Nat) (s most:Int) (S:List Int) (F:List Phi) (od:Nat→List Int) (J:List DX→(Nat→Prop)→World→Prop) (xs:List DX) (Q:Nat→Prop) (x:DX) (oc:List Int):Prop where
 mv:Mv9 wr Q b ra rc R lb lc Ls p s most
 j:J xs Q wr
 now:wr.heap[nc]? =some (.cells #[.slice ra R.length rc,.slice (some ⟨x.lb,0,none⟩) x.Ls.length x.lc] 70 (0,0))
 nq:¬Q nc
 dg:DgX wr wr.heap.size ra x.lb x.lc R x.Ls
 gd:GD S F R (layL x.Ls)
 oo:ordL x.Ls=oc
 sx:SxD S F R od xs
 sz:w.heap.size≤wr.heap.size
section
variable {w wr:World} {nc b:Nat} {ra:Option Addr} {rc:Nat} {R:List Int} {lb lc:Nat} {Ls:List LA} {p:Nat} {s most:Int} {S:List Int} {F:List Phi} {od:Nat→List Int} {J:List DX→(Nat→Prop)→World→Prop} {xs:List DX} {Q:Nat→Prop} {x:DX} {oc:List Int}
theorem soft70 {c:Nat} {a1 a2:Option Addr} {n1 c1 n2 c2:Nat} (h:wr.heap[c]? =some (.cells #[.slice a1 n1 c1,.slice a2 n2 c2] 70 (0,0))):Soft wr c:=fun cs t z e=>by
 rw[h] at e
 cases e
 exact .inl ⟨.inl rfl,fun u hu=>⟨_,_,_,(Option.some.inj hu).symm⟩⟩
theorem MvI.start (hJ:Stb w.heap.size J) (h0:J [] Q w) (hO:Mv9 w Q b ra rc R lb lc Ls p s most) (G:GD S F R (layL Ls)) (ho:ordL Ls=oc):MvI w (w.alloc (.cells #[.slice ra R.length rc,.slice (some ⟨lb,0,none⟩) Ls.length lc] 70)) w.heap.size b ra rc R lb lc Ls p s most S F od J [] Q ⟨lb,lc,Ls⟩ oc:=by
 have y:Below w.heap.size w (w.alloc (.cells #[.slice ra R.length rc,.slice (some ⟨lb,0,none⟩) Ls.length lc] 70)):=al (Below.refl _ _) _
 exact⟨hO.rnd (Rnd.of_below (Q:=fun _=>False) y) (fun _ _ _ h=>h) hO.nq,hJ.its _ _ _ _ h0 (Its.of_below y),heap_alloc_new w _,fun h=>absurd (hJ.low _ _ _ h0 _ h) (Nat.lt_irrefl _),(hO.dg.below y).mono y.size (Nat.le_refl _),G,ho,SxD.nil,y.size⟩
theorem MvI.cells (h:MvI w wr nc b ra rc R lb lc Ls p s most S F od J xs Q x oc):wr.cell? ⟨b,1,none⟩=some (.slice (some ⟨lb,0,none⟩) Ls.length lc)∧wr.cell? ⟨b+1,0,none⟩=some (.int .i64 (p:Int))∧wr.cell? ⟨b+2,0,none⟩=some (.int .i64 s)∧wr.cell? ⟨b+3,0,none⟩=some (.int .i64 most):=h.mv.cells
theorem MvI.now2 (h:MvI w wr nc b ra rc R lb lc Ls p s most S F od J xs Q x oc):wr.cell? ⟨nc,0,none⟩=some (.slice ra R.length rc)∧wr.cell? ⟨nc,1,none⟩=some (.slice (some ⟨x.lb,0,none⟩) x.Ls.length x.lc):=
 ⟨by rw[cell_of_row wr _ _ _ _ _ h.now];rfl,by rw[cell_of_row wr _ _ _ _ _ h.now];rfl⟩
theorem MvI.put {w2 w3:World} {r1 l1:Option Addr} {n1 c1 n2 c2:Nat} (h:MvI w wr nc b ra rc R lb lc Ls p s most S F od J xs Q x oc) (hJ:Stb w.heap.size J) (hnc:w.heap.size≤nc) (hbn:b+3<nc) (y:Below wr.heap.size wr w2)
 (h3:w3=(w2.setCell ⟨nc,0,none⟩ (.slice r1 n1 c1)).setCell ⟨nc,1,none⟩ (.slice l1 n2 c2)):
 Mv9 w3 Q b ra rc R lb lc Ls p s most∧J xs Q w3∧w3.heap[nc]? =some (.cells #[.slice r1 n1 c1,.slice l1 n2 c2] 70 (0,0))∧Rnd (fun b=>b=nc) w2 w3∧w.heap.size≤w3.heap.size:=by
 have b2:=(y.block _ (lt_of_obj h.now)).trans h.now
 have r3:Rnd (fun b=>b=nc) w2 w3:=by
  rw[h3]
  have k1:Rnd (fun b=>b=nc) w2 (w2.setCell ⟨nc,0,none⟩ (.slice r1 n1 c1)):=Rnd.setCell (Q:=fun b=>b=nc) (p:=⟨nc,0,none⟩) rfl (soft70 b2) _
  refine k1.trans (Rnd.setCell (Q:=fun b=>b=nc) (p:=⟨nc,1,none⟩) rfl ?_ _)
  have:=block_setCell b2 0 (.slice r1 n1 c1)
  exact soft70 (by simpa using this)
 have m2:Mv9 w2 Q b ra rc R lb lc Ls p s most:=h.mv.rnd (Rnd.of_below (Q:=fun _=>False) y) (fun _ _ _ h=>h) h.mv.nq
 refine⟨m2.rnd r3 (fun k h1 h2 e=>by omega) h.mv.nq,?_,?_,r3,Nat.le_trans h.sz (Nat.le_trans y.size r3.size)⟩
 ·exact hJ.its _ _ _ _ (hJ.its _ _ _ _ h.j (Its.of_below y)) (r3.its (fun z hz=>⟨by omega,by rw[hz];exact h.nq⟩))
 ·rw[h3]
  have:=block_setCell (block_setCell b2 0 (.slice r1 n1 c1)) 1 (.slice l1 n2 c2)
  simpa using this
end
section
variable {w:World} {ra:Option Addr} {rc lb lc:Nat} {R:List Int} {Ls:List LA} {p:Nat} {s most:Int} {B:Nat}
abbrev mvCap (b:Nat):Array Value:=#[.pointer (some ⟨b,0,none⟩),.pointer (some ⟨b+1,0,none⟩),.pointer (some ⟨b+2,0,none⟩),.pointer (some ⟨b+3,0,none⟩)]
theorem blocks4 (o1 o2 o3 o4:Obj):∃w',w'=(((w.alloc o1).alloc o2).alloc o3).alloc o4∧Below w.heap.size w w'∧w'.heap[w.heap.size]? =some o1∧w'.heap[w.heap.size+1]? =some o2∧w'.heap[w.heap.size+2]? =some o3∧w'.heap[w.heap.size+3]? =some o4:=by
 have s1:(w.alloc o1).heap.size=w.heap.size+1:=by simp
 have s2:((w.alloc o1).alloc o2).heap.size=w.heap.size+2:=by simp
 have s3:(((w.alloc o1).alloc o2).alloc o3).heap.size=w.heap.size+3:=by simp
 have y2:=al (Below.refl _ (w.alloc o1)) o2
 have y3:=al (Below.refl _ ((w.alloc o1).alloc o2)) o3
 have y4:=al (Below.refl _ (((w.alloc o1).alloc o2).alloc o3)) o4
 have b1:=World.alloc_heap_new w o1
 have b2:=World.alloc_heap_new (w.alloc o1) o2
 have b3:=World.alloc_heap_new ((w.alloc o1).alloc o2) o3
 have b4:=World.alloc_heap_new (((w.alloc o1).alloc o2).alloc o3) o4
 rw[s1] at b2
 rw[s2] at b3
 rw[s3] at b4
 refine⟨_,rfl,al (al (al (al (Below.refl _ _) _) _) _) _,?_,?_,?_,b4⟩
 ·exact(y4.block _ (by omega)).trans ((y3.block _ (by omega)).trans ((y2.block _ (by omega)).trans b1))
 ·exact(y4.block _ (by omega)).trans ((y3.block _ (by omega)).trans b2)
 ·exact(y4.block _ (by omega)).trans b3
set_option maxRecDepth 100000 in
set_option maxHeartbeats 1000000 in
theorem moves_any (D:DgX w B ra lb lc R Ls):
 Calls Try.prog 82 #[dgV ra R.length rc lb Ls.length lc,.int .i64 (p:Int),.int .i64 s,.int .i64 most] w fun e w'=>∃b,e=.returned (.func (.func 89) #[] (mvCap b))∧w.heap.size≤b∧(∀Q,(∀k,Q k→k<w.heap.size)→Mv9 w' Q b ra rc R lb lc Ls p s most)∧Below w.heap.size w w':=by
 have hmf:∀(fn:Fn) (first cap:Array Value) (w:World),(Instr.makeFunc fn first cap).run Try.prog w=.ok (.func fn first cap) w:=fun _ _ _ _=>rfl
 obtain⟨w',hw',y,b0,b1,b2,b3⟩:=blocks4 (w:=w) (.cells #[.slice ra R.length rc,.slice (some ⟨lb,0,none⟩) Ls.length lc] 70) (.cells #[.int .i64 (p:Int)] 3) (.cells #[.int .i64 s] 3) (.cells #[.int .i64 most] 3)
 have HY:=hide y
 have HB:=hide (And.intro b0 (And.intro b1 (And.intro b2 b3)))
 have HD:=hide D
 have HW:=hide hw'
 clear hw' y b0 b1 b2 b3 D
 go_enter Try.func82,Try.ntmps82
 go_wp2
 go_ret
 rw[←HW.out]
 refine⟨w.heap.size,rfl,Nat.le_refl _,fun Q hQ=>⟨HB.out.1,HB.out.2.1,HB.out.2.2.1,HB.out.2.2.2,(HD.out.below (HY.out.mono HD.out.hB)).mono (Nat.le_trans HD.out.hB HY.out.size) (Nat.le_refl _),fun k h1 _ hq=>by have:=hQ k hq;omega⟩,HY.out⟩
end
attribute [local go_sem] Oper.semAt_some
theorem Try.info70:(Try.prog.info? 70).map (fun i=>(i.zero,i.size,i.bytes))=some (some (.agg #[.slice none 0 0,.slice none 0 0]),2,48):=by kernel_rfl
def dC (ra:Option Addr) (rc:Nat) (R:List Int) (xs:List DX):List Value:=xs.flatMap fun x=>[.slice ra R.length rc,.slice (some ⟨x.lb,0,none⟩) x.Ls.length x.lc]
section
variable {S:List Int} {F:List Phi} {R:List Int} {ra:Option Addr} {rc:Nat} {od:Nat→List Int} {lbv:Array Value} {Sx:List DX→Prop} {Ow:(Nat→Prop)→World→Prop} {w:World}
theorem dC_append (xs ys:List DX):dC ra rc R (xs++ys)=dC ra rc R xs++dC ra rc R ys:=by simp[dC]
theorem dC_get:∀(xs:List DX) (i:Nat) (h:i<xs.length),(dC ra rc R xs)[i*2]? =some (.slice ra R.length rc)∧(dC ra rc R xs)[i*2+1]? =some (.slice (some ⟨(xs[i]).lb,0,none⟩) (xs[i]).Ls.length (xs[i]).lc)
 |x::R,0,_=>by simp[dC]
 |x::R,i+1,h=>by
  have h':i<R.length:=by simpa using h
  have:=dC_get R i h'
  simp only[dC,List.flatMap_cons] at *
  rw[Nat.succ_mul]
  simpa using this
structure CoI (w:World) (sb:Nat) (ra:Option Addr) (rc:Nat) (R:List Int) (xs:List DX) (Q:Nat→Prop) (wr:World):Prop where
 ex:∃sa c,wr.heap[sb]? =some (.cells #[.slice sa xs.length c] 147 (0,0))∧wr.ownsRow w.heap.size 70 2 (.slice sa xs.length c) xs.length (dC ra rc R xs)∧(∀b,Q b↔b=sb∨(Value.slice sa xs.length c).ownBlock=some b)∧(xs=[]→sa=none)
 dg:∀x∈xs,DgX wr wr.heap.size ra x.lb x.lc R x.Ls
 bel:Below w.heap.size w wr
theorem kept_grown {w w':World} {row:Option Nat} (h:w.grownBy w' row):Kept (fun k=>row=some k) w w':=(Kept.refl _ w).grown h (fun _ e=>e)
theorem soft147 {wr:World} {c:Nat} {a1:Option Addr} {n1 c1:Nat} (h:wr.heap[c]? =some (.cells #[.slice a1 n1 c1] 147 (0,0))):Soft wr c:=fun cs t z e=>by
 rw[h] at e
 cases e
 exact .inl ⟨.inr rfl,fun u hu=>⟨_,_,_,(Option.some.inj hu).symm⟩⟩
theorem soft_row {wr:World} {base:Nat} {sa:Option Addr} {c k:Nat} {xs:List DX} (h:wr.ownsRow base 70 2 (.slice sa xs.length c) xs.length (dC ra rc R xs)) (hn:xs=[]→sa=none) (hk:(Value.slice sa xs.length c).ownBlock=some k):Soft wr k:=fun cs t z e=>by
 rcases h.2 with⟨e1,_⟩|⟨g,cap,cur,e1,_,h1,_,_,hsz,htk⟩
 ·injection e1 with e1
  subst e1
  cases hk
 ·injection e1 with e1 e2 e3
  subst e1
  injection hk with hk
  subst hk
  rw[h1] at e
  cases e
  refine .inl ⟨.inl rfl,fun u hu=>?_⟩
  cases xs with
  |nil=>cases hn rfl
  |cons x xs=>
   have h2:=congrArg (fun l=>l[0]?) htk
   simp only[List.length_cons,List.getElem?_take,dC,List.flatMap_cons] at h2
   rw[if_pos (by omega)] at h2
   have h3:cs.toList[0]? =some u:=by simpa using hu
   rw[h3] at h2
   simp at h2
   exact⟨_,_,_,h2⟩
variable {sb:Nat} {xs:List DX} {Q:Nat→Prop} {wr:World}
theorem CoI.stb {B:Nat} (hB:w.heap.size≤B):Stb B (CoI w sb ra rc R):=by
 refine⟨fun xs Q A A' h k=>?_,fun xs Q A h b hb=>?_⟩
 ·obtain⟨sa,c,h1,h2,h3,h4⟩:=h.ex
  refine⟨⟨sa,c,((Its.rnd k).same (lt_of_obj h1) (fun hb=>hb.2 ((h3 _).2 (.inl rfl)))).trans h1,own_kept h2 k (fun z hz hF=>hF.1.2 ((h3 z).2 (.inr hz))),h3,h4⟩,fun x hx=>((h.dg x hx).soft (Its.rnd k).any).mono k.size (Nat.le_refl _),?_⟩
  exact h.bel.trans ((Its.rnd k).belowN h.bel.size (fun b hb=>by have:=hb.1;omega))
 ·obtain⟨sa,c,h1,h2,h3,h4⟩:=h.ex
  rcases (h3 b).1 hb with rfl|hk
  ·exact lt_of_obj h1
  ·obtain⟨cs,h5⟩:=own_ty h2 b hk
   exact lt_of_obj h5
theorem CoI.push {xW w1 w5:World} {x:DX} {sa:Option Addr} {c g cap:Nat} (h:CoI w sb ra rc R xs Q wr) (hx:DgX wr wr.heap.size ra x.lb x.lc R x.Ls) (y:Below wr.heap.size wr xW)
 (e1:wr.heap[sb]? =some (.cells #[.slice sa xs.length c] 147 (0,0))) (e2:wr.ownsRow w.heap.size 70 2 (.slice sa xs.length c) xs.length (dC ra rc R xs)) (e3:∀b,Q b↔b=sb∨(Value.slice sa xs.length c).ownBlock=some b) (e4:xs=[]→sa=none)
 (O:w1.ownsRow w.heap.size 70 2 (.slice (some ⟨g,0,none⟩) (xs.length+1) cap) (xs.length+1) (dC ra rc R xs++[.slice ra R.length rc,.slice (some ⟨x.lb,0,none⟩) x.Ls.length x.lc])) (G:xW.grownBy w1 (Value.slice sa xs.length c).ownBlock)
 (hg:some g=(Value.slice sa xs.length c).ownBlock∨some g=some xW.heap.size) (e5:w5=w1.setCell ⟨sb,0,none⟩ (.slice (some ⟨g,0,none⟩) (xs.length+1) cap)) (hsb:w.heap.size≤sb):
 ∃Q',CoI w sb ra rc R (xs++[x]) Q' w5∧Rnd Q wr w5∧∀b,Q' b→Q b∨wr.heap.size≤b:=by
 have O2:=own_below e2 y
 have r1:Rnd Q wr xW:=Rnd.of_below y
 have b2:=(y.block _ (lt_of_obj e1)).trans e1
 have r2:Rnd Q xW w1:=(kept_grown G).mono (fun k hk=>⟨(e3 k).2 (.inr hk),soft_row O2 e4 hk⟩)
 have hsn:¬(Value.slice sa xs.length c).ownBlock=some sb:=fun hk=>by
  obtain⟨cs,h5⟩:=own_ty e2 _ hk
  exact ty_ne h5 e1 (by decide) rfl
 have b3:=((kept_grown G).block sb (lt_of_obj b2) hsn).trans b2
 have r3:Rnd Q w1 w5:=by rw[e5];exact Rnd.setCell (Q:=Q) (p:=⟨sb,0,none⟩) ((e3 sb).2 (.inl rfl)) (soft147 b3) _
 have r:=(r1.trans r2).trans r3
 have hgsb:g≠sb:=fun e=>by
  obtain⟨cs,h5⟩:=own_ty O g rfl
  rw[e] at h5
  exact ty_ne h5 b3 (by decide) rfl
 have k5:Kept (fun z=>z=sb) w1 w5:=by rw[e5];exact(Kept.refl (fun z=>z=sb) w1).setCell (p:=⟨sb,0,none⟩) rfl _
 have hl:(xs++[x]).length=xs.length+1:=by simp
 refine⟨fun b=>b=sb∨b=g,⟨⟨some ⟨g,0,none⟩,cap,?_,?_,fun b=>?_,fun h=>?_⟩,fun z hz=>?_,?_⟩,r,fun b hb=>?_⟩
 ·rw[hl,e5]
  have:=block_setCell b3 0 (.slice (some ⟨g,0,none⟩) (xs.length+1) cap)
  simpa using this
 ·rw[hl,dC_append]
  exact own_kept O k5 (fun z hz e=>by cases hz;exact hgsb e)
 ·rw[show(Value.slice (some ⟨g,0,none⟩) (xs++[x]).length cap).ownBlock=some g from rfl]
  constructor
  ·rintro(h|h)
   ·exact .inl h
   ·exact .inr (by rw[h])
  ·rintro(h|h)
   ·exact .inl h
   ·exact .inr (Option.some.inj h).symm
 ·simp at h
 ·rcases List.mem_append.1 hz with hz|hz
  ·exact((h.dg z hz).soft r.any).mono r.size (Nat.le_refl _)
  ·rw[List.mem_singleton.1 hz]
   exact(hx.soft r.any).mono r.size (Nat.le_refl _)
 ·refine h.bel.trans (r.belowN h.bel.size (fun b hb=>?_))
  rcases (e3 b).1 hb with rfl|hk
  ·exact hsb
  ·rcases e2.2 with⟨q1,_⟩|⟨g',_,_,q1,q2,_⟩
   ·injection q1 with q1;subst q1;cases hk
   ·injection q1 with q1;subst q1;injection hk with hk;subst hk;exact q2
 ·rcases hb with rfl|rfl
  ·exact .inl ((e3 _).2 (.inl rfl))
  ·rcases hg with h|h
   ·exact .inl ((e3 _).2 (.inr h.symm))
   ·have:=Option.some.inj h
    have:=y.size
    exact .inr (by omega)
end
end Go.Proofs.Ytnddhkhmbjeefaa

