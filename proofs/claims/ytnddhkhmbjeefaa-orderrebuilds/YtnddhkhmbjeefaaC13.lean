/-
  newLifting by its contract. Condition: rows that may be.
-/
import Derived.Test.YtnddhkhmbjeefaaC12
namespace Go.Proofs.Ytnddhkhmbjeefaa
open Go.RowKit Go.Lib Go.Maps
theorem Try.info98:(Try.prog.info? 98).map (fun i=>(i.zero,i.size,i.bytes))=some (some (.slice none 0 0),1,24):=by kernel_rfl
theorem Try.info113:(Try.prog.info? 113).map (fun i=>(i.zero,i.size,i.bytes))=some (some (.pointer none),1,8):=by kernel_rfl
def ext1 {α:Type} (f:Nat→α) (k:Nat) (x:α):Nat→α:=fun i=>if i=k then x else f i
theorem ext1_at {α:Type} (f:Nat→α) (k:Nat) (x:α):ext1 f k x k=x:=if_pos rfl
theorem ext1_lt {α:Type} (f:Nat→α) {k i:Nat} (x:α) (h:i<k):ext1 f k x i=f i:=if_neg (by omega)
structure NlI (S:List Int) (w wr:World) (B l ob oo oc:Nat) (X:List LA) (k:Nat) (kv mv:Value) (tb kn kk:Nat→Nat) (P:Nat→Nat→Prop):Prop where
 blk:wr.heap[l]? =some (.cells #[.slice (some ⟨ob,oo*2,none⟩) (X.length+1) oc,kv,mv] 117 (0,0))
 kno:wr.ownsRow w.heap.size 98 1 kv k ((List.range k).map fun i=>.slice (some ⟨kn i,0,none⟩) ((X.map fun x=>x.Rs.length).getD i 0) (kk i))
 mad:wr.ownsRow w.heap.size 113 1 mv k ((List.range k).map fun i=>.pointer (some ⟨tb i,0,none⟩))
 knb:∀i,i<k→KnB wr (kn i) ((X.map fun x=>x.Rs.length).getD i 0) (fun _=>none)
 tab:∀i (h:i<X.length),i<k→TbAt wr (tb i) [[(szL S (X[i]).lv,0)],[(szL S (X[i]).lv,1)]] (P i) (fun _=>True)
 apt:∀i j,i<k→j<k→i≠j→∀z,P i z→¬P j z
 kpt:∀i j,i<k→j<k→¬P j (kn i)
 kin:∀i j,i<k→j<k→kn i=kn j→i=j
 fx:∀j,j<k→¬P j l∧(∀z,kv.ownBlock=some z→¬P j z)∧∀z,mv.ownBlock=some z→¬P j z
 hi:∀j z,j<k→P j z→w.heap.size≤z∧z<wr.heap.size
 hk:∀j,j<k→w.heap.size≤kn j
 bel:Below w.heap.size w wr
 hl:w.heap.size≤l
section
variable {S:List Int} {w wr w':World} {B l ob oo oc:Nat} {X:List LA} {k:Nat} {kv mv:Value} {tb kn kk:Nat→Nat} {P:Nat→Nat→Prop} {F:Nat→Prop}
theorem NlI.below (h:NlI S w wr B l ob oo oc X k kv mv tb kn kk P) (x:Below wr.heap.size wr w'):NlI S w w' B l ob oo oc X k kv mv tb kn kk P:=
 ⟨(x.block _ (lt_of_block h.blk)).trans h.blk,own_below h.kno x,own_below h.mad x,fun i hi=>(h.knb i hi).below x,fun i hx hi=>(h.tab i hx hi).below x,h.apt,h.kpt,h.kin,h.fx,fun j z hj hz=>⟨(h.hi j z hj hz).1,Nat.lt_of_lt_of_le (h.hi j z hj hz).2 x.size⟩,h.hk,bt h.bel x (Nat.le_refl _),h.hl⟩
theorem NlI.cells (h:NlI S w wr B l ob oo oc X k kv mv tb kn kk P):wr.cell? ⟨l,1,none⟩=some kv∧wr.cell? ⟨l,2,none⟩=some mv:=by
 refine⟨?_,?_⟩<;>(rw[cell_of_row wr l _ _ _ _ h.blk];rfl)
structure NlK (S:List Int) (w wr:World) (B l ob oo oc:Nat) (X:List LA) (k:Nat) (kv mv:Value) (tb kn kk:Nat→Nat) (P:Nat→Nat→Prop):Prop where
 blk:wr.heap[l]? =some (.cells #[.slice (some ⟨ob,oo*2,none⟩) (X.length+1) oc,kv,mv] 117 (0,0))
 kno:wr.ownsRow w.heap.size 98 1 kv (k+1) ((List.range (k+1)).map fun i=>.slice (some ⟨kn i,0,none⟩) ((X.map fun x=>x.Rs.length).getD i 0) (kk i))
 mad:wr.ownsRow w.heap.size 113 1 mv k ((List.range k).map fun i=>.pointer (some ⟨tb i,0,none⟩))
 knb:∀i,i<k+1→KnB wr (kn i) ((X.map fun x=>x.Rs.length).getD i 0) (fun _=>none)
 tab:∀i (h:i<X.length),i<k→TbAt wr (tb i) [[(szL S (X[i]).lv,0)],[(szL S (X[i]).lv,1)]] (P i) (fun _=>True)
 apt:∀i j,i<k→j<k→i≠j→∀z,P i z→¬P j z
 kpt:∀i j,i<k+1→j<k→¬P j (kn i)
 kin:∀i j,i<k+1→j<k+1→kn i=kn j→i=j
 fx:∀j,j<k→¬P j l∧(∀z,kv.ownBlock=some z→¬P j z)∧∀z,mv.ownBlock=some z→¬P j z
 hi:∀j z,j<k→P j z→w.heap.size≤z∧z<wr.heap.size
 hk:∀j,j<k+1→w.heap.size≤kn j
 bel:Below w.heap.size w wr
 hl:w.heap.size≤l
theorem NlK.below (h:NlK S w wr B l ob oo oc X k kv mv tb kn kk P) (x:Below wr.heap.size wr w'):NlK S w w' B l ob oo oc X k kv mv tb kn kk P:=
 ⟨(x.block _ (lt_of_block h.blk)).trans h.blk,own_below h.kno x,own_below h.mad x,fun i hi=>(h.knb i hi).below x,fun i hx hi=>(h.tab i hx hi).below x,h.apt,h.kpt,h.kin,h.fx,fun j z hj hz=>⟨(h.hi j z hj hz).1,Nat.lt_of_lt_of_le (h.hi j z hj hz).2 x.size⟩,h.hk,bt h.bel x (Nat.le_refl _),h.hl⟩
theorem NlK.cells (h:NlK S w wr B l ob oo oc X k kv mv tb kn kk P):wr.cell? ⟨l,1,none⟩=some kv∧wr.cell? ⟨l,2,none⟩=some mv:=by
 refine⟨?_,?_⟩<;>(rw[cell_of_row wr l _ _ _ _ h.blk];rfl)
theorem NlI.push (h:NlI S w wr B l ob oo oc X k kv mv tb kn kk P) {w2 w3 w4:World} {kb:Nat} (x2:Below wr.heap.size wr w2) (hkb:wr.heap.size≤kb) (z:KnB w2 kb ((X.map fun x=>x.Rs.length).getD k 0) (fun _=>none)) {kc:Nat} {kv':Value} (h3:w3.ownsRow w.heap.size 98 1 kv' (k+1) (((List.range k).map fun i=>.slice (some ⟨kn i,0,none⟩) ((X.map fun x=>x.Rs.length).getD i 0) (kk i))++[.slice (some ⟨kb,0,none⟩) ((X.map fun x=>x.Rs.length).getD k 0) kc])) (g3:w2.grownBy w3 kv.ownBlock) (l3:∀z,kv'.ownBlock=some z→kv.ownBlock=some z∨w2.heap.size≤z) (e4:w4=w3.setCell ⟨l,1,none⟩ kv'):
 NlK S w w4 B l ob oo oc X k kv' mv tb (ext1 kn k kb) (ext1 kk k kc) P:=by
 subst e4
 have H2:=h.below x2
 have k3:Kept (fun z=>kv.ownBlock=some z) w2 w3:=kept_of_grown g3
 have hkt:∀ {z cs tt f},kv.ownBlock=some z→w2.heap[z]? =some (.cells cs tt f)→tt=98:=fun {z cs tt f} hz hc=>by
  obtain⟨cs',h5⟩:=own_ty H2.kno z hz
  rw[hc] at h5
  simp at h5
  exact h5.2.1
 have b3:=(k3.block l (lt_of_block H2.blk) (fun hz=>absurd (hkt hz H2.blk) (by decide))).trans H2.blk
 have k4:Kept (fun z=>z=l) w3 (w3.setCell ⟨l,1,none⟩ kv'):=Kept.setCell (F:=fun z=>z=l) (p:=⟨l,1,none⟩) (Kept.refl _ _) rfl _
 have b4:(w3.setCell ⟨l,1,none⟩ kv').heap[l]? =some (.cells #[.slice (some ⟨ob,oo*2,none⟩) (X.length+1) oc,kv',mv] 117 (0,0)):=by
  have:=block_setCell b3 1 kv'
  simpa using this
 have kk4:Kept (fun z=>kv.ownBlock=some z∨z=l) w2 (w3.setCell ⟨l,1,none⟩ kv'):=(k3.mono (fun _ h=>.inl h)).trans (k4.mono (fun _ h=>.inr h))
 have nr:NoRun w2 (fun z=>kv.ownBlock=some z∨z=l):=fun z hz cs e=>by
  rcases hz with hz|hz
  ·exact absurd (hkt hz e) (by decide)
  ·subst hz;exact ty_ne H2.blk e (by decide) rfl
 have knk:∀ {b n K},KnB w2 b n K→KnB (w3.setCell ⟨l,1,none⟩ kv') b n K:=fun hb=>hb.kept kk4 (fun hF=>by
  obtain⟨cs,h5⟩:=hb.ty
  rcases hF with hF|hF
  ·exact absurd (hkt hF h5) (by decide)
  ·exact ty_ne h5 H2.blk (by decide) hF)
 have hs2:wr.heap.size≤w2.heap.size:=x2.size
 have hws:=h.bel.size
 refine⟨b4,?_,?_,fun i hi=>?_,fun i hx hi=>(H2.tab i hx hi).kept kk4 (fun z hz hF=>?_) nr,h.apt,fun i j hi hj=>?_,fun i j hi hj e=>?_,fun j hj=>?_,fun j z hj hz=>⟨(h.hi j z hj hz).1,?_⟩,fun j hj=>?_,?_,h.hl⟩
 ·have e:((List.range (k+1)).map fun i=>Value.slice (some ⟨ext1 kn k kb i,0,none⟩) ((X.map fun x=>x.Rs.length).getD i 0) (ext1 kk k kc i))=((List.range k).map fun i=>.slice (some ⟨kn i,0,none⟩) ((X.map fun x=>x.Rs.length).getD i 0) (kk i))++[.slice (some ⟨kb,0,none⟩) ((X.map fun x=>x.Rs.length).getD k 0) kc]:=by
   rw[List.range_succ,List.map_append]
   congr 1
   ·apply List.map_congr_left
    intro i hi
    have:=List.mem_range.1 hi
    rw[ext1_lt kn kb this,ext1_lt kk kc this]
   ·simp[ext1_at]
  rw[e]
  exact own_kept h3 k4 (fun z hz e=>by
   obtain⟨cs',h5⟩:=own_ty h3 _ hz
   exact ty_ne h5 b3 (by decide) e)
 ·exact own_kept H2.mad kk4 (fun z hz hF=>by
   rcases hF with hF|hF
   ·exact own_ne H2.mad H2.kno (by decide) z hz hF
   ·obtain⟨cs',h5⟩:=own_ty H2.mad _ hz
    exact ty_ne h5 H2.blk (by decide) hF)
 ·by_cases e:i=k
  ·subst e;rw[ext1_at];exact knk z
  ·rw[ext1_lt kn kb (by omega)];exact knk (H2.knb i (by omega))
 ·rcases hF with hF|hF
  ·exact(h.fx i hi).2.1 z hF hz
  ·subst hF;exact(h.fx i hi).1 hz
 ·by_cases e:i=k
  ·subst e
   rw[ext1_at]
   intro hp
   have:=(h.hi j _ hj hp).2
   omega
  ·rw[ext1_lt kn kb (by omega)];exact h.kpt i j (by omega) hj
 ·have low:∀ {i},i<k→kn i<wr.heap.size:=fun hi=>(h.knb _ hi).lt
  by_cases e1:i=k
  ·by_cases e2:j=k
   ·omega
   ·subst e1
    rw[ext1_at,ext1_lt kn kb (by omega)] at e
    have:=low (show j<i by omega)
    omega
  ·by_cases e2:j=k
   ·subst e2
    rw[ext1_at,ext1_lt kn kb (by omega)] at e
    have:=low (show i<j by omega)
    omega
   ·rw[ext1_lt kn kb (by omega),ext1_lt kn kb (by omega)] at e
    exact h.kin i j (by omega) (by omega) e
 ·refine⟨(h.fx j hj).1,fun z hz hp=>?_,(h.fx j hj).2.2⟩
  rcases l3 z hz with h5|h5
  ·exact(h.fx j hj).2.1 z h5 hp
  ·have:=(h.hi j z hj hp).2
   omega
 ·have:=(h.hi j z hj hz).2
  have:=kk4.size
  omega
 ·by_cases e:j=k
  ·subst e;rw[ext1_at];omega
  ·rw[ext1_lt kn kb (by omega)];exact h.hk j (by omega)
 ·refine H2.bel.trans (kk4.below (Nat.le_trans hws x2.size) (fun z hz=>?_))
  rcases hz with hz|hz
  ·exact(World.ownsRow.lt H2.kno z hz).1
  ·rw[hz];exact h.hl
theorem NlK.push (h:NlK S w wr B l ob oo oc X k kv mv tb kn kk P) (hkx:k<X.length) {w2 w3 w4:World} {t:Nat} {Pt:Nat→Prop} (x2:Below wr.heap.size wr w2) (ht:TbAt w2 t [[(szL S (X[k]).lv,0)],[(szL S (X[k]).lv,1)]] Pt (fun _=>True)) (hpt:∀z,Pt z→wr.heap.size≤z) {w5:World} (x5:Below w2.heap.size w2 w5) {mv':Value} (h3:w3.ownsRow w.heap.size 113 1 mv' (k+1) (((List.range k).map fun i=>.pointer (some ⟨tb i,0,none⟩))++[.pointer (some ⟨t,0,none⟩)])) (g3:w5.grownBy w3 mv.ownBlock) (l3:∀z,mv'.ownBlock=some z→mv.ownBlock=some z∨w5.heap.size≤z) (e4:w4=w3.setCell ⟨l,2,none⟩ mv'):
 NlI S w w4 B l ob oo oc X (k+1) kv mv' (ext1 tb k t) kn kk (ext1 P k Pt):=by
 subst e4
 have H2:=(h.below x2).below x5
 have k3:Kept (fun z=>mv.ownBlock=some z) w5 w3:=kept_of_grown g3
 have hkt:∀ {z cs tt f},mv.ownBlock=some z→w5.heap[z]? =some (.cells cs tt f)→tt=113:=fun {z cs tt f} hz hc=>by
  obtain⟨cs',h5⟩:=own_ty H2.mad z hz
  rw[hc] at h5
  simp at h5
  exact h5.2.1
 have b3:=(k3.block l (lt_of_block H2.blk) (fun hz=>absurd (hkt hz H2.blk) (by decide))).trans H2.blk
 have k4:Kept (fun z=>z=l) w3 (w3.setCell ⟨l,2,none⟩ mv'):=Kept.setCell (F:=fun z=>z=l) (p:=⟨l,2,none⟩) (Kept.refl _ _) rfl _
 have b4:(w3.setCell ⟨l,2,none⟩ mv').heap[l]? =some (.cells #[.slice (some ⟨ob,oo*2,none⟩) (X.length+1) oc,kv,mv'] 117 (0,0)):=by
  have:=block_setCell b3 2 mv'
  simpa using this
 have kk4:Kept (fun z=>mv.ownBlock=some z∨z=l) w5 (w3.setCell ⟨l,2,none⟩ mv'):=(k3.mono (fun _ h=>.inl h)).trans (k4.mono (fun _ h=>.inr h))
 have nr:NoRun w5 (fun z=>mv.ownBlock=some z∨z=l):=fun z hz cs e=>by
  rcases hz with hz|hz
  ·exact absurd (hkt hz e) (by decide)
  ·subst hz;exact ty_ne H2.blk e (by decide) rfl
 have hs:wr.heap.size≤w2.heap.size:=x2.size
 have hs5:w2.heap.size≤w5.heap.size:=x5.size
 have hws:=h.bel.size
 have hll:=lt_of_block h.blk
 have hmlt:∀z,mv.ownBlock=some z→z<wr.heap.size:=fun z hz=>(World.ownsRow.lt h.mad z hz).2
 have hklt:∀z,kv.ownBlock=some z→z<wr.heap.size:=fun z hz=>(World.ownsRow.lt h.kno z hz).2
 have tlt:∀z,Pt z→z<w2.heap.size:=fun z hz=>ht.plt hz
 refine⟨b4,?_,?_,fun i hi=>(H2.knb i hi).kept kk4 (fun hF=>?_),fun i hx hi=>?_,fun i j hi hj hne z hp1 hp2=>?_,fun i j hi hj=>?_,h.kin,fun j hj=>?_,fun j z hj hz=>?_,h.hk,?_,h.hl⟩
 ·exact own_kept H2.kno kk4 (fun z hz hF=>by
   rcases hF with hF|hF
   ·exact own_ne H2.kno H2.mad (by decide) z hz hF
   ·obtain⟨cs',h5⟩:=own_ty H2.kno _ hz
    exact ty_ne h5 H2.blk (by decide) hF)
 ·have e:((List.range (k+1)).map fun i=>Value.pointer (some ⟨ext1 tb k t i,0,none⟩))=((List.range k).map fun i=>.pointer (some ⟨tb i,0,none⟩))++[.pointer (some ⟨t,0,none⟩)]:=by
   rw[List.range_succ,List.map_append]
   congr 1
   ·apply List.map_congr_left
    intro i hi
    rw[ext1_lt tb t (List.mem_range.1 hi)]
   ·simp[ext1_at]
  rw[e]
  exact own_kept h3 k4 (fun z hz e=>by
   obtain⟨cs',h5⟩:=own_ty h3 _ hz
   exact ty_ne h5 b3 (by decide) e)
 ·obtain⟨cs,h5⟩:=(H2.knb i hi).ty
  rcases hF with hF|hF
  ·exact absurd (hkt hF h5) (by decide)
  ·exact ty_ne h5 H2.blk (by decide) hF
 ·by_cases e:i=k
  ·subst e
   rw[ext1_at,ext1_at]
   refine(ht.below x5).kept kk4 (fun z hz hF=>?_) nr
   have h6:=hpt z hz
   rcases hF with hF|hF
   ·have:=hmlt z hF
    omega
   ·omega
  ·rw[ext1_lt tb t (by omega),ext1_lt P Pt (by omega)]
   refine(H2.tab i hx (by omega)).kept kk4 (fun z hz hF=>?_) nr
   rcases hF with hF|hF
   ·exact(h.fx i (by omega)).2.2 z hF hz
   ·subst hF;exact(h.fx i (by omega)).1 hz
 ·by_cases e1:i=k
  ·subst e1
   rw[ext1_at] at hp1
   rw[ext1_lt P Pt (by omega)] at hp2
   have:=hpt z hp1
   have:=(h.hi j z (by omega) hp2).2
   omega
  ·rw[ext1_lt P Pt (by omega)] at hp1
   by_cases e2:j=k
   ·subst e2
    rw[ext1_at] at hp2
    have:=hpt z hp2
    have:=(h.hi i z (by omega) hp1).2
    omega
   ·rw[ext1_lt P Pt (by omega)] at hp2
    exact h.apt i j (by omega) (by omega) hne z hp1 hp2
 ·by_cases e:j=k
  ·subst e
   rw[ext1_at]
   intro hp
   have:=hpt _ hp
   have:=(h.knb i hi).lt
   omega
  ·rw[ext1_lt P Pt (by omega)];exact h.kpt i j hi (by omega)
 ·by_cases e:j=k
  ·subst e
   rw[ext1_at]
   refine⟨fun hp=>?_,fun z hz hp=>?_,fun z hz hp=>?_⟩
   ·have:=hpt _ hp
    omega
   ·have:=hpt _ hp
    have:=hklt z hz
    omega
   ·have h6:=hpt _ hp
    rcases l3 z hz with h5|h5
    ·have:=hmlt z h5
     omega
    ·have:=tlt z hp
     omega
  ·rw[ext1_lt P Pt (by omega)]
   refine⟨(h.fx j (by omega)).1,(h.fx j (by omega)).2.1,fun z hz hp=>?_⟩
   rcases l3 z hz with h5|h5
   ·exact(h.fx j (by omega)).2.2 z h5 hp
   ·have:=(h.hi j z (by omega) hp).2
    omega
 ·have h6:=kk4.size
  by_cases e:j=k
  ·subst e
   rw[ext1_at] at hz
   have:=hpt z hz
   have:=tlt z hz
   omega
  ·rw[ext1_lt P Pt (by omega)] at hz
   have:=h.hi j z (by omega) hz
   omega
 ·refine H2.bel.trans (kk4.below (by omega) (fun z hz=>?_))
  rcases hz with hz|hz
  ·exact(World.ownsRow.lt H2.mad z hz).1
  ·rw[hz];exact h.hl
end
end Go.Proofs.Ytnddhkhmbjeefaa

