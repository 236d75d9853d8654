import Derived.Test.YtbjabpodkaokjaaGreatDoorJ03
import Derived.Deep.RegionHeld3
import Derived.Test.YtbjabpodkaokjaaGreatDoorJ02
import Derived.Maps.AppendAt
import Derived.Deep.AppendLies
import Derived.Lib.AppendStr
import Derived.RangeFuncNested
import Derived.RangeFuncBound
import Derived.RangeFuncCalls
import Derived.RangeFuncLeaves
import Derived.RangeFuncFrom
import Derived.Shelf.Abstract
import Derived.Shelf.RegionOpen
import Derived.OwnWalkIn
import Derived.TacticsInMore
import Derived.LoopNIn
import Derived.LoopIn
import Derived.BigQuiet
import Derived.Deep.QuietTactic
import Derived.Test.YtbjabpodkaokjaaGreatDoorJ06
import Derived.Lib.BufferRead
set_option linter.unusedVariables false
set_option linter.unusedSimpArgs false
set_option maxHeartbeats 4000000
set_option maxRecDepth 100000
namespace Go.Proofs.YtbjabpodkaokjaaGreatDoor
open Go.RowKit
structure Au (w:World) (g:Nat) (f b:Bool) (s:Int) (cf:Nat→Int) (S:Nat→Bool) (v:Value):Prop where
 c0:w.cell? ⟨g,0,none⟩=some (.bool f)
 c1:w.cell? ⟨g,1,none⟩=some (.bool b)
 c2:w.cell? ⟨g,2,none⟩=some (.int .u8 s)
 cl:∀ j,j<256→w.cell? ⟨g,3+j,none⟩=some (.int .u8 (cf j))
 st:∃ x0 x1 x2 x3,SetAt w g 259 S x0 x1 x2 x3
 cn:w.cell? ⟨g,263,none⟩=some v
theorem Au.fz {w:World}{g:Nat}{f b:Bool}{s:Int}{cf:Nat→Int}{S:Nat→Bool}{v:Value} (h:Au w g f b s cf S v) (o:Nat):w.frozen? ⟨g,o,none⟩=false:=by
 obtain⟨x0,x1,x2,x3,h⟩:=h.st
 exact h.fz o
theorem Au.lt {w:World}{g:Nat}{f b:Bool}{s:Int}{cf:Nat→Int}{S:Nat→Bool}{v:Value} (h:Au w g f b s cf S v):g<w.heap.size:=cell_lt h.c0
theorem Au.of_block {w w':World}{g:Nat}{f b:Bool}{s:Int}{cf:Nat→Int}{S:Nat→Bool}{v:Value} (h:Au w g f b s cf S v) (e:w'.heap[g]?=w.heap[g]?):Au w' g f b s cf S v:=by
 have hc:∀ o,w'.cell? ⟨g,o,none⟩=w.cell? ⟨g,o,none⟩:=fun o=>by simp[World.cell?,e]
 have hf:∀ o,w'.frozen? ⟨g,o,none⟩=w.frozen? ⟨g,o,none⟩:=fun o=>by simp[World.frozen?,e]
 obtain⟨c0,c1,c2,cl,⟨x0,x1,x2,x3,⟨wd,d0,d1,d2,d3,fz⟩⟩,cn⟩:=h
 exact⟨(hc _).trans c0,(hc _).trans c1,(hc _).trans c2,fun j hj=>(hc _).trans (cl j hj),⟨x0,x1,x2,x3,⟨wd,(hc _).trans d0,(hc _).trans d1,(hc _).trans d2,(hc _).trans d3,fun o=>(hf o).trans (fz o)⟩⟩,(hc _).trans cn⟩
theorem Au.four {w w':World}{g:Nat}{f b:Bool}{s:Int}{cf:Nat→Int}{S S':Nat→Bool}{v:Value} (h:Au w g f b s cf S v) (h4:Four g 259 w w') (hs:∃ x0 x1 x2 x3,SetAt w' g 259 S' x0 x1 x2 x3):Au w' g f b s cf S' v:=by
 obtain⟨c0,c1,c2,cl,_,cn⟩:=h
 exact⟨(h4.cell _ (by omega)).trans c0,(h4.cell _ (by omega)).trans c1,(h4.cell _ (by omega)).trans c2,fun j hj=>(h4.cell _ (by omega)).trans (cl j hj),hs,(h4.cell _ (by omega)).trans cn⟩
theorem Au.set {w:World}{g:Nat}{f b:Bool}{s:Int}{cf:Nat→Int}{S S':Nat→Bool}{v:Value} (h:Au w g f b s cf S v) (e:∀ n,n<256→S n=S' n):Au w g f b s cf S' v:=by
 obtain⟨c0,c1,c2,cl,⟨x0,x1,x2,x3,h⟩,cn⟩:=h
 obtain⟨⟨l0,l1,l2,l3,b0,b1,b2,b3⟩,d0,d1,d2,d3,fz⟩:=h
 exact⟨c0,c1,c2,cl,⟨x0,x1,x2,x3,⟨⟨l0,l1,l2,l3,fun n hn=>(b0 n hn).trans (e _ (by omega)),fun n hn=>(b1 n hn).trans (e _ (by omega)),fun n hn=>(b2 n hn).trans (e _ (by omega)),fun n hn=>(b3 n hn).trans (e _ (by omega))⟩,d0,d1,d2,d3,fz⟩⟩,cn⟩
theorem auA_get3 (f b:Bool) (s:Int) (v:Value) (j:Nat) (hj:j<256):(auA f b s v)[3+j]?=some (.int .u8 0):=by
 simp only[auA,List.getElem?_toArray]
 rw[List.append_assoc,List.append_assoc,List.getElem?_append_right (by simp),List.getElem?_append_left (by rw[rg_len];simp;omega)]
 exact rg_get _ _ _ (by simp;omega)
theorem auA_get4 (f b:Bool) (s:Int) (v:Value) (j:Nat) (hj:j<4):(auA f b s v)[259+j]?=some (.int .u64 0):=by
 simp only[auA,List.getElem?_toArray]
 rw[List.append_assoc,List.getElem?_append_right (by rw[List.length_append,rg_len];first|(simp;done)|(simp;omega)),List.getElem?_append_left (by rw[List.length_append,rg_len,rg_len];simp;omega)]
 exact rg_get _ _ _ (by rw[List.length_append,rg_len];simp;omega)
theorem auA_get5 (f b:Bool) (s:Int) (v:Value):(auA f b s v)[263]?=some v:=by
 simp only[auA,List.getElem?_toArray]
 rw[List.getElem?_append_right (by rw[List.length_append,List.length_append,rg_len,rg_len];simp)]
 rw[List.length_append,List.length_append,rg_len,rg_len];simp
theorem auA_get0 (f b:Bool) (s:Int) (v:Value):(auA f b s v)[0]?=some (.bool f)∧(auA f b s v)[1]?=some (.bool b)∧(auA f b s v)[2]?=some (.int .u8 s):=by
 simp only[auA,List.getElem?_toArray,List.cons_append,List.getElem?_cons_zero,List.getElem?_cons_succ,and_self]
theorem Au.new (w:World) (f b:Bool) (s:Int) (v:Value):Au (w.alloc (.cells (auA f b s v) 163)) w.heap.size f b s (fun _=>0) (fun _=>false) v:=by
 have hc:∀ o,(w.alloc (.cells (auA f b s v) 163)).cell? ⟨w.heap.size,o,none⟩=(auA f b s v)[o]?:=fun o=>World.cell?_alloc_at _ _ _ _ rfl
 refine⟨?_,?_,?_,fun j hj=>?_,⟨0,0,0,0,⟨⟨by omega,by omega,by omega,by omega,by simp,by simp,by simp,by simp⟩,?_,?_,?_,?_,fun o=>by simp[go_sem]⟩⟩,?_⟩<;>rw[hc]
 ·exact(auA_get0 f b s v).1
 ·exact(auA_get0 f b s v).2.1
 ·exact(auA_get0 f b s v).2.2
 ·exact auA_get3 f b s v j hj
 ·exact auA_get4 f b s v 0 (by omega)
 ·exact auA_get4 f b s v 1 (by omega)
 ·exact auA_get4 f b s v 2 (by omega)
 ·exact auA_get4 f b s v 3 (by omega)
 ·exact auA_get5 f b s v
theorem cell_setCells (b:Nat):∀(vs:List Value) (o:Nat) (w:World) (p:Nat),(∀ j,j<vs.length→(w.cell? ⟨b,o+j,none⟩).isSome=true) →
  (w.setCells b o vs).cell? ⟨b,p,none⟩=if o≤p∧p<o+vs.length then vs[p-o]? else w.cell? ⟨b,p,none⟩
 |[],o,w,p,_=>by rw[if_neg (by simp)];rfl
 |v::r,o,w,p,h=>by
  have h0:=h 0 (by simp)
  obtain⟨u,hu⟩:=Option.isSome_iff_exists.1 h0
  have hu':w.cell? ⟨b,o,none⟩=some u:=hu
  simp only[World.setCells]
  rw[cell_setCells b r (o+1) _ p (fun j hj=>by
   have:=h (j+1) (by simpa using hj)
   rw[World.cell?_setCell_other _ _ _ _ (by first|(simp;done)|(simp;omega))]
   rw[show o+1+j=o+(j+1) by omega];exact this)]
  by_cases e:p=o
  ·subst e
   rw[if_neg (by omega),if_pos (by simp),World.cell?_setCell_same _ _ _ hu']
   simp
  ·by_cases h2:o+1≤p∧p<o+1+r.length
   ·rw[if_pos h2,if_pos (by simp;omega),show p-o=(p-(o+1))+1 by omega];rfl
   ·rw[if_neg h2,if_neg (by simp;omega),World.cell?_setCell_other _ _ _ _ (by first|(simp;done)|(simp;omega))]
theorem frozen_setCells (b:Nat) (q:Addr):∀(vs:List Value) (o:Nat) (w:World),(w.setCells b o vs).frozen? q=w.frozen? q
 |[],_,_=>rfl
 |v::r,o,w=>by simp only[World.setCells];rw[frozen_setCells b q r (o+1)];simp
theorem Au.cls {w:World}{g:Nat}{f b:Bool}{s:Int}{cf:Nat→Int}{S:Nat→Bool}{v:Value} (h:Au w g f b s cf S v) (l:List UInt8) (hl:l.length=256) :
  Au (w.setCells g 3 (l.map fun x=>Value.int .u8 (x.toNat:Int))) g f b s (fun j=>((l[j]?.getD 0).toNat:Int)) S v:=by
 have hs:∀ j,j<(l.map fun x=>Value.int .u8 (x.toNat:Int)).length→(w.cell? ⟨g,3+j,none⟩).isSome=true:=fun j hj=>by rw[h.cl j (by simpa [hl] using hj)];rfl
 have hc:=fun p=>cell_setCells g _ 3 w p hs
 have hne:∀ p,(p<3∨259≤p)→(w.setCells g 3 (l.map fun x=>Value.int .u8 (x.toNat:Int))).cell? ⟨g,p,none⟩=w.cell? ⟨g,p,none⟩:=fun p hp=>by rw[hc,if_neg (by simp[hl];omega)]
 obtain⟨c0,c1,c2,cl,⟨x0,x1,x2,x3,⟨wd,d0,d1,d2,d3,fz⟩⟩,cn⟩:=h
 refine⟨(hne _ (by omega)).trans c0,(hne _ (by omega)).trans c1,(hne _ (by omega)).trans c2,fun j hj=>?_,⟨x0,x1,x2,x3,⟨wd,(hne _ (by omega)).trans d0,(hne _ (by omega)).trans d1,(hne _ (by omega)).trans d2,(hne _ (by omega)).trans d3,fun o=>(frozen_setCells _ _ _ _ _).trans (fz o)⟩⟩,(hne _ (by omega)).trans cn⟩
 rw[hc,if_pos (by simp[hl];omega)]
 have:j<l.length:=by omega
 simp[this]
theorem heap_setCells {b k:Nat} (hk:k≠b):∀(vs:List Value) (o:Nat) (w:World),(w.setCells b o vs).heap[k]?=w.heap[k]?
 |[],_,_=>rfl
 |v::r,o,w=>by simp only[World.setCells];rw[heap_setCells hk r (o+1)];exact Below.heap_setCell _ _ _ _ hk
def RowN {α:Type} (lo:Nat) (enc:α→Value) (w:World) (v:Value) (l:List α):Prop:=
 ∃ g,v=.slice (some ⟨g,0,none⟩) l.length l.length∧lo≤g∧g<w.heap.size∧(∀ j (hj:j<l.length),w.cell? ⟨g,j,none⟩=some (enc l[j]))∧∀ o,w.frozen? ⟨g,o,none⟩=false
structure Hi (lo:Nat) (w w':World):Prop where
 size:w.heap.size≤w'.heap.size
 block:∀ k,lo≤k→k<w.heap.size→w'.heap[k]?=w.heap[k]?
theorem Hi.refl (lo:Nat) (w:World):Hi lo w w:=⟨Nat.le_refl _,fun _ _ _=>rfl⟩
theorem Hi.trans {lo:Nat}{x y z:World} (h:Hi lo x y) (k:Hi lo y z):Hi lo x z:=⟨Nat.le_trans h.size k.size,fun j h1 h2=>(k.block j h1 (Nat.lt_of_lt_of_le h2 h.size)).trans (h.block j h1 h2)⟩
theorem Hi.of_below {lo:Nat}{w w':World} (h:Below w.heap.size w w'):Hi lo w w':=⟨h.size,fun k _ h2=>h.block k h2⟩
theorem Hi.setCell {lo:Nat}{w w':World} (h:Hi lo w w') {b:Nat} (hb:b<lo) (o:Nat) (v:Value):Hi lo w (w'.setCell ⟨b,o,none⟩ v):=h.trans ⟨by simp[World.setCell],fun k h1 _=>Below.heap_setCell _ _ _ _ (by simp only;omega)⟩
theorem Hi.four {lo:Nat}{w w' w2:World} (h:Hi lo w w') {b off:Nat} (hb:b<lo) (h4:Four b off w' w2):Hi lo w w2:=h.trans ⟨h4.size,fun k h1 h2=>h4.block k h2 (by omega)⟩
theorem Hi.drew {lo:Nat}{w w':World} (h:Hi lo w w'):Hi lo w w'.drew:=⟨h.size,h.block⟩
theorem Hi.alloc {lo:Nat}{w w':World} (h:Hi lo w w') (o:Obj):Hi lo w (w'.alloc o):=h.trans ⟨by simp,fun k _ hk=>Below.heap_alloc _ _ _ hk⟩
theorem RowN.keep {α:Type}{lo:Nat}{enc:α→Value}{w w':World}{v:Value}{l:List α} (h:RowN lo enc w v l) (k:Hi lo w w'):RowN lo enc w' v l:=by
 obtain⟨g,h1,h2,h3,h4,h5⟩:=h
 have e:=k.block g h2 h3
 exact⟨g,h1,h2,Nat.lt_of_lt_of_le h3 k.size,fun j hj=>by have:=h4 j hj;simp only[World.cell?] at this ⊢;rw[e];exact this,fun o=>by have:=h5 o;simp only[World.frozen?] at this ⊢;rw[e];exact this⟩
theorem RowN.of_nw {α:Type}{lo:Nat}{enc:α→Value}{w:World}{g:Nat}{l:List α}{f:Nat→Value} (h:Nw w g l.length f) (hlo:lo≤g) (hg:g<w.heap.size) (e:∀ j (hj:j<l.length),f j=enc l[j]):RowN lo enc w (.slice (some ⟨g,0,none⟩) l.length l.length) l:=
 ⟨g,rfl,hlo,hg,fun j hj=>by rw[h.c j hj,e j hj],h.fz⟩
theorem RowN.row {α:Type}{lo:Nat}{enc:α→Value}{w:World}{v:Value}{l:List α} (h:RowN lo enc w v l):RowE enc w v l:=by
 obtain⟨g,rfl,h2,h3,h4,h5⟩:=h
 exact .inr ⟨g,0,_,rfl,fun j hj=>by rw[Nat.zero_add];exact h4 j hj⟩
structure AuIn (w:World) (g:Nat) (t:Tb):Prop where
 au:∃ S v,Au w g t.front t.back t.start (fun j=>((t.cls[j]?.getD 0).toNat:Int)) S v∧(∀ j,j<256→S j=(t.acc[j]?.getD false))∧RowsE e8 w v t.next
theorem AuIn.below {w w':World}{g:Nat}{t:Tb} (h:AuIn w g t) (hb:Below w.heap.size w w'):AuIn w' g t:=by
 obtain⟨S,v,h1,h2,h3⟩:=h.au
 exact⟨S,v,h1.of_block (hb.block g h1.lt),h2,h3.below hb⟩
theorem Hi.mono {lo lo':Nat}{w w':World} (h:Hi lo w w') (hl:lo≤lo'):Hi lo' w w':=⟨h.size,fun k h1 h2=>h.block k (Nat.le_trans hl h1) h2⟩
structure TbOk (t:Tb) (c:Nat):Prop where
 a1:1≤t.acc.length
 a2:t.acc.length≤200
 n:t.next.length=t.acc.length
 s1:0≤t.start
 s2:t.start<t.acc.length
 cc:cntR (ba t.cls)=some c
 r:∀ r∈t.next,r.length=c∧∀ z∈r,0≤z∧z<t.acc.length
theorem tbOk_of {t:Tb} (h:isTb t=true):∃ c,TbOk t c:=by
 unfold isTb at h
 simp only[Bool.and_eq_true,decide_eq_true_eq] at h
 obtain⟨h1,h2,h3,h4,h5⟩:=h
 split at h5
 ·simp at h5
 ·rename_i c hc
  refine⟨c,⟨h1,h2,h3,?_,?_,hc,fun r hr=>?_⟩⟩
  ·simp[isSt] at h4;exact h4.1
  ·simp[isSt] at h4;exact h4.2
  ·have:=List.all_eq_true.1 h5 r hr
   simp only[rowOk,Bool.and_eq_true,beq_iff_eq] at this
   refine⟨this.1,fun z hz=>?_⟩
   have:=List.all_eq_true.1 this.2 z hz
   simpa [isSt] using this
theorem TbOk.c256 {t:Tb}{c:Nat} (h:TbOk t c):c≤256∧t.cls.length=256:=by
 have h5:=h.cc
 unfold cntR at h5
 split at h5
 ·rename_i h6
  have:=cntC_le _ _ _ h5
  rw[ba_size] at h6
  exact⟨by omega,h6⟩
 ·simp at h5
structure NI (w wr:World) (g g1 n:Nat) (f b:Bool) (st:Int) (cf:Nat→Int) (acc:List Bool) (next:List (List Int)) (va:Value) (S:Nat→Bool) (k:Nat) (vs:List Value):Prop where
 au:Au wr g f b st cf S (.slice (some ⟨g1,0,none⟩) n n)
 nw:Nw wr g1 n (fun j=>vs[j]?.getD (.slice none 0 0))
 vl:vs.length=k
 rows:∀ j (h:j<vs.length),RowN (g+1) e8 wr vs[j] (next[j]?.getD [])
 bl:Below w.heap.size w wr
 lo:g<wr.heap.size
 c4:wr.cell? ⟨w.heap.size,4,none⟩=some va
 gl:w.heap.size<g1∧g=g1+1
theorem NI.step {w wr w4:World}{g g1 n:Nat}{f b:Bool}{st:Int}{cf:Nat→Int}{acc:List Bool}{next:List (List Int)}{va:Value}{S:Nat→Bool}{k:Nat}{vs:List Value} (h:NI w wr g g1 n f b st cf acc next va S k vs)
  {r:List Int}{g4:Nat} (hb:Below wr.heap.size wr w4) (hg:wr.heap.size≤g4) (hg2:g4<w4.heap.size) (hn:Nw w4 g4 r.length fun j=>e8 (r[j]?.getD 0)) (hr:next[k]?=some r) (hk:k<n) :
  NI w (w4.setCell ⟨g1,k,none⟩ (.slice (some ⟨g4,0,none⟩) r.length r.length)) g g1 n f b st cf acc next va S (k+1) (vs++[.slice (some ⟨g4,0,none⟩) r.length r.length]):=by
 obtain⟨au,nw,vl,rows,bl,lo,c4,gl,ge⟩:=h
 have nlt:g1<wr.heap.size:=by omega
 have hw5:Hi (g+1) wr (w4.setCell ⟨g1,k,none⟩ (.slice (some ⟨g4,0,none⟩) r.length r.length)):=(Hi.of_below hb).setCell (by omega) _ _
 have hs5:(w4.setCell ⟨g1,k,none⟩ (.slice (some ⟨g4,0,none⟩) r.length r.length)).heap.size=w4.heap.size:=by simp[World.setCell]
 have hz:=hb.size
 refine⟨(au.of_block (hb.block g lo)).of_block (Below.heap_setCell _ _ _ _ (by simp only;omega)),?_,by simp[vl],fun j hj=>?_,?_,by omega,?_,gl,ge⟩
 ·refine((nw.of_block (hb.block g1 nlt)).set k hk _).congr (fun j hj=>?_)
  by_cases e:j=k
  ·subst e;rw[if_pos rfl,List.getElem?_append_right (by omega)];simp[vl]
  ·rw[if_neg e]
   by_cases e2:j<k
   ·rw[List.getElem?_append_left (by omega)]
   ·rw[List.getElem?_eq_none (by omega),List.getElem?_eq_none (by simp[vl];omega)]
 ·by_cases e:j<vs.length
  ·rw[List.getElem_append_left e]
   exact(rows j e).keep hw5
  ·have e2:j=vs.length:=by simp at hj;omega
   subst e2
   rw[List.getElem_append_right (Nat.le_refl _)]
   simp only[Nat.sub_self,List.getElem_cons_zero]
   rw[vl,hr]
   simp only[Option.getD_some]
   exact(RowN.of_nw (lo:=g+1) (enc:=e8) hn (by omega) hg2 (fun j hj=>by simp[hj])).keep ((Hi.refl _ _).setCell (by omega) _ _)
 ·exact(bl.trans (hb.mono bl.size)).setCell (p:=⟨g1,k,none⟩) (by simp only;omega) _
 ·rw[World.cell?_setCell_other _ _ _ _ (by first|(simp;done)|(simp;omega))]
  exact cell_below hb c4
theorem NI.drew {w wr:World}{g g1 n:Nat}{f b:Bool}{st:Int}{cf:Nat→Int}{acc:List Bool}{next:List (List Int)}{va:Value}{S:Nat→Bool}{k:Nat}{vs:List Value} (h:NI w wr g g1 n f b st cf acc next va S k vs):NI w wr.drew g g1 n f b st cf acc next va S k vs:=by
 obtain⟨au,nw,vl,rows,bl,lo,c4,gl⟩:=h
 exact⟨au.of_block rfl,nw.of_block rfl,vl,fun j hj=>(rows j hj).keep (Hi.refl _ _).drew,bl.drew,lo,c4,gl⟩
theorem NI.four {w wr w6:World}{g g1 n:Nat}{f b:Bool}{st:Int}{cf:Nat→Int}{acc:List Bool}{next:List (List Int)}{va:Value}{S S':Nat→Bool}{k:Nat}{vs:List Value} (h:NI w wr g g1 n f b st cf acc next va S k vs)
  (h4:Four g 259 wr w6) (hs:∃ y0 y1 y2 y3,SetAt w6 g 259 S' y0 y1 y2 y3):NI w w6 g g1 n f b st cf acc next va S' k vs:=by
 obtain⟨au,nw,vl,rows,bl,lo,c4,gl,ge⟩:=h
 have hz:=bl.size
 have hz4:=h4.size
 refine⟨au.four h4 hs,nw.of_block (h4.block g1 (by omega) (by omega)),vl,fun j hj=>(rows j hj).keep ((Hi.refl _ _).four (by omega) h4),?_,by omega,?_,gl,ge⟩
 ·exact⟨h4.os.trans bl.os,h4.tape.trans bl.tape,h4.output.trans bl.output,by omega,fun j hj=>(h4.block j (by omega) (by omega)).trans (bl.block j hj)⟩
 ·have e:=h4.block w.heap.size (cell_lt c4) (by omega)
  simp only[World.cell?] at c4 ⊢;rw[e];exact c4
theorem NI.set {w wr:World}{g g1 n:Nat}{f b:Bool}{st:Int}{cf:Nat→Int}{acc:List Bool}{next:List (List Int)}{va:Value}{S S':Nat→Bool}{k:Nat}{vs:List Value} (h:NI w wr g g1 n f b st cf acc next va S k vs) (e:∀ n,n<256→S n=S' n):NI w wr g g1 n f b st cf acc next va S' k vs:=by
 obtain⟨au,nw,vl,rows,bl,lo,c4,gl⟩:=h
 exact⟨au.set e,nw,vl,rows,bl,lo,c4,gl⟩
theorem new_yesN (w:World) (t:Tb) (va vn:Value) (h:TabIn w t va vn) (hs:Small t) (hf:isTb t=true) :
  Calls Tryz.prog 42 #[tv t va vn] w fun e w'=>∃ g,e=.returned (.tuple #[.pointer (some ⟨g,0,none⟩),.bool true])∧w.heap.size≤g∧(∀ w2,Hi w.heap.size w' w2→AuIn w2 g t)∧Below w.heap.size w w':=by
 obtain⟨c,ok⟩:=tbOk_of hf
 have hc256:=ok.c256
 obtain⟨f,b,st,cls,acc,next⟩:=t
 obtain⟨a1,a2,n1,s1,s2,cc,hr⟩:=ok
 simp only at *
 have hB:Below w.heap.size w (w.alloc (.cells #[.bool f,.bool b,.int .i64 st,.string (ba cls),va,vn] 33)):=(Below.refl _ _).alloc (Nat.le_refl _) _
 have hi:=isTable_any _ _ va vn (h.below hB) hs
 rw[hf] at hi
 have HB:Hid (Below w.heap.size w (w.alloc (.cells #[.bool f,.bool b,.int .i64 st,.string (ba cls),va,vn] 33))):=hB
 have HT:Hid (TabIn (w.alloc (.cells #[.bool f,.bool b,.int .i64 st,.string (ba cls),va,vn] 33)) ⟨f,b,st,cls,acc,next⟩ va vn):=h.below hB
 obtain⟨us,hul,hu,hrw⟩:=h.next
 obtain⟨an,on,cn,hvn,hun⟩:=hu.nonnil (by simp only at *;omega)
 obtain⟨aa,oa,ca,hva,hca⟩:=h.acc.nonnil (by simp only at *;omega)
 simp only at hul hu hrw hvn hun hva hca
 obtain⟨n,hn⟩:∃ n,n=acc.length:=⟨_,rfl⟩
 have hvn':vn=.slice (some ⟨an,on,none⟩) n cn:=by rw[hvn,hul,n1,hn]
 have hva':va=.slice (some ⟨aa,oa,none⟩) n ca:=by rw[hva,hn]
 clear hvn hva hB h hs hf
 obtain⟨i0,hi0,hz0,hz1,hz2⟩:=info_parts Tryz.infoLS
 have hmk:=make_eq Tryz.underlying159 hi0 hz0 hz1 hz2 n (by omega) (by unfold maxLen;omega)
 have hzv:=zA_run
 have hzs:=zA_size
 have hze:=zA_ne
 have hzt:=zA_set
 have hw8:=wrap8 st (by omega)
 subst hvn' hva'
 have HN:Hid (n=acc.length):=hn
 have HN1:Hid (next.length=n):=n1.trans hn.symm
 have HUL:Hid (us.length=n):=hul.trans HN1.out
 have HR:Hid (∀(r:List Int),r∈next→r.length=c∧∀(z:Int),z∈r→0≤z∧z<(n:Int)):=by show ∀ _,_;rw[hn];exact hr
 have HRW:Hid (∀(j:Nat) (h1:j<us.length) (h2:j<next.length),RowE eI w us[j] next[j]):=hrw
 have HUN:Hid (∀(j:Nat) (hj:j<us.length),w.cell? ⟨an,on+j,none⟩=some us[j]):=hun
 have HCA:Hid (∀(j:Nat) (hj:j<acc.length),w.cell? ⟨aa,oa+j,none⟩=some (eB acc[j])):=hca
 have HCL:Hid (cls.length=256):=hc256.2
 have hc:=hc256.1
 rw[←hn] at s2 a1 a2
 simp only[tv] at hi
 clear hn n1 hul hr hrw hun hca hc256 cc hu
 go_enter Tryz.func42,Tryz.ntmps42
 go_wp2_with (go_at_call 76;refine hi.mono ?_;rintro e w1 ⟨rfl,hb⟩;have k0:w1.cell? ⟨w.heap.size,0,none⟩=some (.bool f):=cell_below hb (by simp[go_sem]);have k1:w1.cell? ⟨w.heap.size,1,none⟩=some (.bool b):=cell_below hb (by simp[go_sem]);have k2:w1.cell? ⟨w.heap.size,2,none⟩=some (.int .i64 st):=cell_below hb (by simp[go_sem]);have k3:w1.cell? ⟨w.heap.size,3,none⟩=some (.string (ba cls)):=cell_below hb (by simp[go_sem]);have k4:w1.cell? ⟨w.heap.size,4,none⟩=some (.slice (some ⟨aa,oa,none⟩) n ca):=cell_below hb (by simp[go_sem]);have k5:w1.cell? ⟨w.heap.size,5,none⟩=some (.slice (some ⟨an,on,none⟩) n cn):=cell_below hb (by simp[go_sem]))
 go_region_held3 (fun w'=>w'.cell? ⟨w.heap.size,0,none⟩=some (.bool f)∧w'.cell? ⟨w.heap.size,1,none⟩=some (.bool b)∧w'.cell? ⟨w.heap.size,2,none⟩=some (.int .i64 st)∧w'.cell? ⟨w.heap.size,5,none⟩=some (.slice (some ⟨an,on,none⟩) n cn)) (go_keep) (fail)
 have hbA:Below w.heap.size w w1:=HB.out.trans (hb.mono (by simp))
 have hb2:Below w.heap.size w ((w1.alloc (.cells (mkA n (.slice none 0 0)) 164)).alloc (.cells (auA f b st (.slice (some ⟨w1.heap.size,0,none⟩) n n)) 163)).drew:=((hbA.alloc hbA.size _).alloc (by have:=hbA.size;simp;omega) _).drew
 have hz2:((w1.alloc (.cells (mkA n (.slice none 0 0)) 164)).alloc (.cells (auA f b st (.slice (some ⟨w1.heap.size,0,none⟩) n n)) 163)).drew.heap.size=w1.heap.size+2:=by simp
 have hau:Au ((w1.alloc (.cells (mkA n (.slice none 0 0)) 164)).alloc (.cells (auA f b st (.slice (some ⟨w1.heap.size,0,none⟩) n n)) 163)).drew (w1.heap.size+1) f b st (fun _=>0) (fun _=>false) (.slice (some ⟨w1.heap.size,0,none⟩) n n):=by
  have:=Au.new (w1.alloc (.cells (mkA n (.slice none 0 0)) 164)) f b st (.slice (some ⟨w1.heap.size,0,none⟩) n n)
  rw[World.size_alloc] at this
  exact this.of_block rfl
 have hnw:Nw ((w1.alloc (.cells (mkA n (.slice none 0 0)) 164)).alloc (.cells (auA f b st (.slice (some ⟨w1.heap.size,0,none⟩) n n)) 163)).drew w1.heap.size n (fun _=>.slice none 0 0):=
  (Nw.new w1 n (.slice none 0 0) rfl _).of_block (Below.heap_alloc _ _ _ (by simp))
 have hlt1:=cell_lt k0
 have j3:((w1.alloc (.cells (mkA n (.slice none 0 0)) 164)).alloc (.cells (auA f b st (.slice (some ⟨w1.heap.size,0,none⟩) n n)) 163)).drew.cell? ⟨w.heap.size,3,none⟩=some (.string (ba cls)):=cell_below (((Below.refl w1.heap.size w1).alloc (Nat.le_refl _) _).alloc (by simp) _).drew k3
 have j4:((w1.alloc (.cells (mkA n (.slice none 0 0)) 164)).alloc (.cells (auA f b st (.slice (some ⟨w1.heap.size,0,none⟩) n n)) 163)).drew.cell? ⟨w.heap.size,4,none⟩=some (.slice (some ⟨aa,oa,none⟩) n ca):=cell_below (((Below.refl w1.heap.size w1).alloc (Nat.le_refl _) _).alloc (by simp) _).drew k4
 have j5:((w1.alloc (.cells (mkA n (.slice none 0 0)) 164)).alloc (.cells (auA f b st (.slice (some ⟨w1.heap.size,0,none⟩) n n)) 163)).drew.cell? ⟨w.heap.size,5,none⟩=some (.slice (some ⟨an,on,none⟩) n cn):=cell_below (((Below.refl w1.heap.size w1).alloc (Nat.le_refl _) _).alloc (by simp) _).drew k5
 rename_i hheld
 clear hheld
 generalize hw2:((w1.alloc (.cells (mkA n (.slice none 0 0)) 164)).alloc (.cells (auA f b st (.slice (some ⟨w1.heap.size,0,none⟩) n n)) 163)).drew=w2 at hb2 hz2 hau hnw j3 j4 j5 ⊢
 clear hw2 k0 k1 k2 k3 k4 k5 hb
 clear hbA HB HT hi hmk hzv hzs hze hzt hz0 hz1 hi0
 generalize hg1:w1.heap.size=g1 at hau hnw hz2 hlt1 ⊢
 clear hg1
 have HAU:Hid (Au w2 (g1+1) f b st (fun _=>0) (fun _=>false) (.slice (some ⟨g1,0,none⟩) n n)):=hau
 have HNW:Hid (Nw w2 g1 n fun _=>.slice none 0 0):=hnw
 have HB2:Hid (Below w.heap.size w w2):=hb2
 clear hau hnw hb2
 have hsz8:∀ w,(Go.sizeOf 5).run Tryz.prog w=.ok 1 w:=fun w=>by
  have h:=Tryz.infoU8
  obtain⟨i0,hi,hz0,hz1,hz2⟩:=info_parts Tryz.infoU8
  simp[Go.sizeOf,typeInfo,hi,hz1]
 have hcsz:(ba cls).size=256:=by rw[ba_size];exact HCL.out
 have hcopy:Hid (∀ j,j<(ba cls).size→(w2.drew.cell? ⟨g1+1,3+j,none⟩).isSome=true):=fun j hj=>by
  rw[hcsz] at hj
  have:=HAU.out.cl j hj
  rw[show w2.drew.cell? ⟨g1+1,3+j,none⟩=w2.cell? ⟨g1+1,3+j,none⟩ from rfl,this];rfl
 have hcopf:Hid (∀ j,j<(ba cls).size→w2.drew.frozen? ⟨g1+1,3+j,none⟩=false):=fun j _=>HAU.out.fz _
 go_wp2
 go_region_law (refine step_copy_string rfl (.tmp 26) (.tmp 28) 73 9 rfl 5 Tryz.underlying73 hsz8 (g1+1) 3 256 256 (by simp[Act.eval,Act.put]) (ba cls) (by simp[Act.eval,Act.put]) (by rw[hcsz];exact Nat.le_refl _) hcopy.out hcopf.out ?_)
 have hau3:Au (w2.drew.setCells (g1+1) 3 (cls.map fun x=>Value.int .u8 (x.toNat:Int))) (g1+1) f b st (fun j=>((cls[j]?.getD 0).toNat:Int)) (fun _=>false) (.slice (some ⟨g1,0,none⟩) n n):=Au.cls (w:=w2.drew) (HAU.out.of_block rfl) cls HCL.out
 have hnw3:Nw (w2.drew.setCells (g1+1) 3 (cls.map fun x=>Value.int .u8 (x.toNat:Int))) g1 n (fun _=>.slice none 0 0):=HNW.out.of_block (heap_setCells (by omega) _ _ _)
 have hb3:Below w.heap.size w (w2.drew.setCells (g1+1) 3 (cls.map fun x=>Value.int .u8 (x.toNat:Int))):=below_setCells (by omega) _ _ _ HB2.out.drew
 have hj4:(w2.drew.setCells (g1+1) 3 (cls.map fun x=>Value.int .u8 (x.toNat:Int))).cell? ⟨w.heap.size,4,none⟩=some (.slice (some ⟨aa,oa,none⟩) n ca):=by
  have e:=heap_setCells (b:=g1+1) (k:=w.heap.size) (by omega) (cls.map fun x=>Value.int .u8 (x.toNat:Int)) 3 w2.drew
  have j4':=j4
  simp only[World.cell?] at j4' ⊢;rw[e];exact j4'
 have hj5:(w2.drew.setCells (g1+1) 3 (cls.map fun x=>Value.int .u8 (x.toNat:Int))).cell? ⟨w.heap.size,5,none⟩=some (.slice (some ⟨an,on,none⟩) n cn):=by
  have e:=heap_setCells (b:=g1+1) (k:=w.heap.size) (by omega) (cls.map fun x=>Value.int .u8 (x.toNat:Int)) 3 w2.drew
  have j5':=j5
  simp only[World.cell?] at j5' ⊢;rw[e];exact j5'
 generalize hw3:w2.drew.setCells (g1+1) 3 (cls.map fun x=>Value.int .u8 (x.toNat:Int))=w3 at hau3 hnw3 hb3 hj4 hj5 ⊢
 have HNI:Hid (NI w w3 (g1+1) g1 n f b st (fun j=>((cls[j]?.getD 0).toNat:Int)) acc next (.slice (some ⟨aa,oa,none⟩) n ca) (fun j=>decide (j<0)&&(acc[j]?.getD false)) 0 []):=
  ⟨hau3.set (fun _ _=>by simp),hnw3.congr (fun _ _=>by simp),rfl,fun j h=>by simp at h,hb3,Nat.lt_of_lt_of_le (Nat.lt_succ_self _) hau3.lt,hj4,by omega⟩
 clear hau3 hnw3 hb3 hj4 hw3 j3 j4 j5 hcopy hcopf HAU HNW HB2
 go_wp2
 go_loopw [33,5,6] (fun i _ _ wr=>∃ k:Nat,∃ vs,i=.int .i64 k∧k≤n∧NI w wr (g1+1) g1 n f b st (fun j=>((cls[j]?.getD 0).toNat:Int)) acc next (.slice (some ⟨aa,oa,none⟩) n ca) (fun j=>decide (j<k)&&(acc[j]?.getD false)) k vs) (fun i _ _ _=>n-(intOf i).toNat)
 case atStart=>exact⟨0,[],rfl,Nat.zero_le _,HNI.out⟩
 case round=>
  obtain⟨k,vs,rfl,hk,hni⟩:=hrel
  have HI:Hid (NI w wr (g1+1) g1 n f b st (fun j=>((cls[j]?.getD 0).toNat:Int)) acc next (.slice (some ⟨aa,oa,none⟩) n ca) (fun j=>decide (j<k)&&(acc[j]?.getD false)) k vs):=hni
  by_cases hlt:k<n
  ·have hltI:(k:Int)<n:=by omega
   have hk1:k<us.length:=by have:=HUL.out;omega
   have hk2:k<next.length:=by have:=HN1.out;omega
   have hk3:k<acc.length:=by have:=HN.out;omega
   have hcu:=cell_below hni.bl (HUN.out k hk1)
   have hca:=cell_below hni.bl (HCA.out k hk3)
   have hrk:=(HRW.out k hk1 hk2).below hni.bl
   have hrr:=HR.out next[k] (List.getElem_mem hk2)
   have c4:=hni.c4
   have cn:=hni.au.cn
   have cs:=hni.nw.c k hlt
   rw[List.getElem?_eq_none (by rw[hni.vl];exact Nat.le_refl _)] at cs
   simp only[Option.getD_none] at cs
   have cf:=hni.nw.fz k
   obtain⟨u,hu⟩:∃ u,u=us[k]:=⟨_,rfl⟩
   obtain⟨r,hre⟩:∃ r,r=next[k]:=⟨_,rfl⟩
   obtain⟨ab,hab⟩:∃ ab,ab=acc[k]:=⟨_,rfl⟩
   rw[←hu] at hcu hrk
   rw[←hre] at hrk hrr
   rw[←hab] at hca
   have HRE:Hid (r=next[k]):=hre
   have HAB:Hid (ab=acc[k]):=hab
   have hlo:=hni.lo
   have hcv:=conv8_any wr.drew u r (hrk.below (Below.refl wr.heap.size wr).drew) (by omega) (fun z hz=>by have:=hrr.2 z hz;omega)
   have hw8k:=wrap8 (k:Int) (by omega)
   have HRL:Hid (r.length=c):=hrr.1
   clear hni hu hre hab hrk hrr
   go_wp2
   go_region_held3 (fun w'=>w'.cell? ⟨g1+1,263,none⟩=some (.slice (some ⟨g1,0,none⟩) n n)) (go_keep) (first|(go_at_call 77;refine hcv.mono ?_;rintro e w4 ⟨g4,rfl,hg4,hl4,hn4,hb4⟩;have cs4:w4.cell? ⟨g1,k,none⟩=some (.slice none 0 0):=cell_below hb4 cs;have cn4:w4.cell? ⟨g1+1,263,none⟩=some (.slice (some ⟨g1,0,none⟩) n n):=cell_below hb4 cn;have cf4:w4.frozen? ⟨g1,k,none⟩=false:=(by have:=cf;have e:=hb4.block g1 (cell_lt cs);simp only[World.frozen?] at this ⊢;rw[e];exact this)))
   rename_i hheld
   clear hheld
   have HN5:Hid (NI w (w4.setCell ⟨g1,k,none⟩ (.slice (some ⟨g4,0,none⟩) r.length r.length)) (g1+1) g1 n f b st (fun j=>((cls[j]?.getD 0).toNat:Int)) acc next (.slice (some ⟨aa,oa,none⟩) n ca) (fun j=>decide (j<k)&&(acc[j]?.getD false)) (k+1) (vs++[.slice (some ⟨g4,0,none⟩) r.length r.length])):=
    HI.out.drew.step hb4 hg4 hl4 hn4 (by rw[List.getElem?_eq_getElem hk2,HRE.out]) hlt
   generalize hw5:w4.setCell ⟨g1,k,none⟩ (.slice (some ⟨g4,0,none⟩) r.length r.length)=w5 at HN5 ⊢
   generalize (vs++[.slice (some ⟨g4,0,none⟩) r.length r.length])=vs' at HN5
   clear hw5 cs4 cn4 cf4 hb4 hn4 hl4 hg4 hcu hca cs cf c4 cn
   have c4:=HN5.out.c4
   have hca:=cell_below HN5.out.bl (HCA.out k hk3)
   rw[←HAB.out] at hca
   cases ab with
   |false=>
    go_wp2
    go_roundw
    case rel=>exact⟨k+1,vs',by go_num,by omega,HN5.out.set (fun j hj=>by
     by_cases e:j=k
     ·subst e;have:=HAB.out;simp[hk3,←this]
     ·have e2:(j<k+1)=(j<k):=by rw[eq_iff_iff];omega
      simp only[e2])⟩
    case measure=>simp[intOf]<;>omega
   |true=>
    obtain⟨x0,x1,x2,x3,hset⟩:=HN5.out.au.st
    have hadd:=add_any w5 (g1+1) 259 k _ x0 x1 x2 x3 (by omega) hset
    clear hset
    go_wp2_with (go_at_call 78;refine hadd.mono ?_;rintro e w6 ⟨rfl,hs6,hf6⟩)
    go_roundw
    case rel=>exact⟨k+1,vs',by go_num,by omega,(HN5.out.four hf6 hs6).set (fun j hj=>by
     by_cases e:j=k
     ·subst e;have:=HAB.out;simp[hk3,←this,orS,inSpan]
     ·have e2:(j<k+1)=(j<k):=by rw[eq_iff_iff];omega
      have e3:inSpan k k j=false:=by simp[inSpan];omega
      simp only[e2,orS,e3,Bool.or_false])⟩
    case measure=>simp[intOf]<;>omega
  ·have hkI:¬(k:Int)<n:=by omega
   clear hni
   go_wp2
   go_ret2
   refine⟨g1+1,rfl,by omega,?_,HI.out.bl⟩
   have hkn:k=n:=by omega
   intro w2 hi2
   obtain⟨au,nw,vl,rows,bl,lo,c4,gl⟩:=HI.out
   replace au:=au.of_block (hi2.block _ (by omega) lo)
   replace nw:=nw.of_block (hi2.block g1 (by omega) (by omega))
   replace rows:=fun j (h:j<vs.length)=>(rows j h).keep (hi2.mono (by omega))
   refine⟨⟨_,_,au,fun j hj=>?_,⟨vs,?_,?_,fun j h1 h2=>?_⟩⟩⟩
   ·by_cases hjk:j<k
    ·simp[hjk]
    ·have:acc.length≤j:=by have:=HN.out;omega
     simp[hjk,List.getElem?_eq_none this]
   ·show vs.length=next.length
    rw[HN1.out];omega
   ·have e:vs.length=n:=by omega
    have:=Nw.row (α:=Value) (l:=vs) (enc:=id) (c:=n) (by rw[e];exact nw) (fun j hj=>by simp[hj])
    rw[e] at this
    exact this
   ·have:=(rows j h1).row
    have h2':j<next.length:=h2
    simpa [h2'] using this
def stp (t:Tb) (s:Nat) (c:UInt8):Nat:=(((t.next[s]?.getD [])[(t.cls[c.toNat]?.getD 0).toNat]?).getD 0).toNat
def stL (t:Tb) (l:List UInt8):Nat:=l.foldl (stp t) t.start.toNat
def accN (t:Tb) (s:Nat):Bool:=t.acc[s]?.getD false
def eP (t:Tb) (l:List UInt8) (k:Nat):List Nat:=(List.range k).filter fun i=>!t.back&&accN t (stL t (l.take i))
def endsL (t:Tb) (l:List UInt8):List Nat:=eP t l l.length++if accN t (stL t l) then[l.length] else[]
theorem eP_succ (t:Tb) (l:List UInt8) (k:Nat):eP t l (k+1)=eP t l k++if (!t.back&&accN t (stL t (l.take k))) then[k] else[]:=by
 unfold eP
 rw[List.range_succ,List.filter_append]
 congr 1
 by_cases h:(!t.back&&accN t (stL t (l.take k)))=true
 ·rw[if_pos h];simp only[List.filter_cons,List.filter_nil];rw[if_pos h]
 ·rw[if_neg h];simp only[List.filter_cons,List.filter_nil];rw[if_neg h]
theorem eP_len (t:Tb) (l:List UInt8) (k:Nat):(eP t l k).length≤k:=by
 have:=List.length_filter_le (fun i=>!t.back&&accN t (stL t (l.take i))) (List.range k)
 simpa [eP] using this
theorem eP_prefix (t:Tb) (l:List UInt8) (k:Nat):∀ n,eP t l k <+: eP t l (k+n)
 |0=>List.prefix_refl _
 |n+1=>(eP_prefix t l k n).trans (by
  show _ <+: eP t l (k+n+1)
  rw[eP_succ]
  exact List.prefix_append _ _)
theorem eP_ends (t:Tb) (l:List UInt8) (k:Nat) (h:k≤l.length):eP t l k <+: endsL t l:=by
 obtain⟨n,hn⟩:∃ n,l.length=k+n:=⟨l.length-k,by omega⟩
 unfold endsL
 refine List.IsPrefix.trans ?_ (List.prefix_append _ _)
 rw[hn]
 exact eP_prefix t l k n
theorem stL_snoc (t:Tb) (l:List UInt8) (c:UInt8):stL t (l++[c])=stp t (stL t l) c:=by simp[stL]
theorem cls_lt:∀(l:List UInt8) (n m:Nat),cntC n l=some m→∀ j (h:j<l.length),l[j].toNat<m
 |[],_,_,_,j,h=>by simp at h
 |c::t,n,m,hc,j,h=>by
  simp only[cntC] at hc
  split at hc
  ·simp at hc
  ·have hm:=(cntC_le t _ m hc).1
   cases j with
   |zero=>simp;omega
   |succ j=>exact cls_lt t _ m hc j (by simpa using h)
theorem TbOk.cls {t:Tb}{c:Nat} (h:TbOk t c) (b:UInt8):(t.cls[b.toNat]?.getD 0).toNat<c:=by
 have h5:=h.cc
 have h2:=h.c256.2
 unfold cntR at h5
 split at h5
 ·have hb:=b.toNat_lt
  have hlt:b.toNat<t.cls.length:=by omega
  have:=cls_lt t.cls 0 c h5 b.toNat hlt
  simpa [hlt] using this
 ·simp at h5
theorem TbOk.stp {t:Tb}{c:Nat} (h:TbOk t c) (s:Nat) (hs:s<t.acc.length) (b:UInt8):stp t s b<t.acc.length:=by
 unfold Go.Proofs.YtbjabpodkaokjaaGreatDoor.stp
 have hsn:s<t.next.length:=by rw[h.n];exact hs
 have hr:=h.r t.next[s] (List.getElem_mem hsn)
 have hc:=h.cls b
 rw[List.getElem?_eq_getElem hsn,Option.getD_some,List.getElem?_eq_getElem (by rw[hr.1];exact hc),Option.getD_some]
 have:=hr.2 _ (List.getElem_mem (by rw[hr.1];exact hc))
 omega
theorem TbOk.stL {t:Tb}{c:Nat} (h:TbOk t c):∀ l:List UInt8,stL t l<t.acc.length:=by
 have key:∀(l:List UInt8) (s:Nat),s<t.acc.length→l.foldl (Go.Proofs.YtbjabpodkaokjaaGreatDoor.stp t) s<t.acc.length:=by
  intro l
  induction l with
  |nil=>intro s hs;exact hs
  |cons b r ih=>intro s hs;exact ih _ (h.stp s hs b)
 intro l
 exact key l _ (by have:=h.s1;have:=h.s2;omega)
theorem au_step {w:World}{g:Nat}{t:Tb}{c:Nat} (h:AuIn w g t) (hok:TbOk t c) (s:Nat) (hs:s<t.acc.length) (b:UInt8) :
  ∃ bn on cn ar lr cr,w.cell? ⟨g,263,none⟩=some (.slice (some ⟨bn,on,none⟩) t.acc.length cn)∧w.cell? ⟨bn,on+s,none⟩=some (.slice (some ⟨ar,lr,none⟩) c cr)∧w.cell? ⟨g,3+b.toNat,none⟩=some (.int .u8 ((t.cls[b.toNat]?.getD 0).toNat:Int))∧w.cell? ⟨ar,lr+(t.cls[b.toNat]?.getD 0).toNat,none⟩=some (.int .u8 (stp t s b:Int)):=by
 obtain⟨S,v,hau,hS,us,hul,hu,hr⟩:=h.au
 have hsn:s<t.next.length:=by rw[hok.n];exact hs
 have hsu:s<us.length:=by omega
 obtain⟨bn,on,cn,rfl,hcell⟩:=hu.nonnil (by omega)
 have hrow:=hok.r t.next[s] (List.getElem_mem hsn)
 have hc:=hok.cls b
 obtain⟨ar,lr,cr,hform,hrc⟩:=(hr s hsu hsn).nonnil (by rw[hrow.1];omega)
 refine⟨bn,on,cn,ar,lr,cr,?_,?_,hau.cl b.toNat (by have:=b.toNat_lt;omega),?_⟩
 ·rw[hau.cn,hul,hok.n]
 ·rw[hcell s hsu,←hrow.1];exact congrArg some hform
 ·have hcl:(t.cls[b.toNat]?.getD 0).toNat<t.next[s].length:=by rw[hrow.1];exact hc
  rw[hrc _ hcl]
  have e:(stp t s b:Int)=t.next[s][(t.cls[b.toNat]?.getD 0).toNat]:=by
   unfold Go.Proofs.YtbjabpodkaokjaaGreatDoor.stp
   rw[List.getElem?_eq_getElem hsn,Option.getD_some,List.getElem?_eq_getElem hcl,Option.getD_some]
   have:=hrow.2 _ (List.getElem_mem hcl)
   omega
  rw[e]
structure Kq (H:Nat) (W W':World):Prop where
 bl:Below H W W'
 k1:W'.heap[H+1]?=W.heap[H+1]?
 k2:W'.heap[H+2]?=W.heap[H+2]?
theorem Kq.refl (H:Nat) (W:World):Kq H W W:=⟨Below.refl _ _,rfl,rfl⟩
theorem Kq.trans {H:Nat}{A B C:World} (h:Kq H A B) (k:Kq H B C):Kq H A C:=⟨h.bl.trans k.bl,k.k1.trans h.k1,k.k2.trans h.k2⟩
theorem Kq.below {H:Nat}{A B C:World} (h:Kq H A B) (hb:Below B.heap.size B C) (hs:H+3≤B.heap.size):Kq H A C:=h.trans ⟨hb.mono (by omega),hb.block _ (by omega),hb.block _ (by omega)⟩
theorem ret_i {k:IntKind}{a b:Int} (h:a=b):Ending.returned (.int k a)=.returned (.int k b):=by rw[h]
abbrev eU (c:UInt8):Value:=.int .u8 c.toNat
theorem bits_and_u32_one (r:Nat) (h:r<4294967296):bits .and .u32 (r:Int) 1=((r%2:Nat):Int):=by
 have e1:(1:Int)=((1:Nat):Int):=rfl
 have:=(bits_nat .u32 32 (by decide) (fun n h1 h2=>by rw[IntKind.wrap_u32];omega) r 1 h (by omega)).1
 rw[e1,this,Nat.and_one_is_mod]
theorem pstep_eq (r:Nat) (h:r<4294967296):bits .xor .u32 ((r:Int) / 2) (IntKind.u32.wrap (3988292384*bits .and .u32 (r:Int) 1))=((pStep r:Nat):Int):=by
 rw[bits_and_u32_one r h]
 have e:IntKind.u32.wrap (3988292384*((r%2:Nat):Int))=((3988292384*(r%2):Nat):Int):=by
  rw[IntKind.wrap_u32];omega
 rw[e,show(r:Int) / 2=((r / 2:Nat):Int) by omega,bits_xor_u32 _ _ (by omega) (by omega)]
 rfl
theorem sum_any (w:World) (v:Value) (l:List UInt8) (hv:RowE eU w v l) (hl:l.length≤1000000) :
  Calls Tryz.prog 105 #[v] w fun e w'=>e=.returned (.int .u32 (crc l))∧w'=w:=by
 obtain⟨a,c,hform⟩:=hv.form
 subst hform
 obtain⟨n,hn⟩:∃ n,n=l.length:=⟨_,rfl⟩
 have HN:Hid (n=l.length):=hn
 rw[←hn] at hl ⊢
 have HV:Hid (RowE eU w (.slice a n c) l):=by show RowE _ _ _ _;rw[hn];exact hv
 clear hn hv
 go_enter Tryz.func105,Tryz.ntmps105
 go_wp2
 go_loop [3,9] (fun r i=>∃ k x:Nat,i=.int .i64 k∧r=.int .u32 x∧k≤n∧x<4294967296∧x=crcF 4294967295 (l.take k)) (fun _ i=>n-(intOf i).toNat)
 case atStart=>exact⟨0,4294967295,rfl,rfl,Nat.zero_le _,by omega,rfl⟩
 case round=>
  obtain⟨k,x,rfl,rfl,hk,hx,hxe⟩:=hrel
  have HX:Hid (x=crcF 4294967295 (l.take k)):=hxe
  clear hxe
  by_cases hlt:k<n
  ·have hlt1:k<l.length:=by have:=HN.out;omega
   have hltI:(k:Int)<n:=by omega
   obtain⟨b,o,c',hform,hcell⟩:=HV.out.nonnil (by omega)
   injection hform with e1 e2 e3
   subst e1
   have hck:=hcell k hlt1
   obtain⟨z,hz⟩:∃ z,z=l[k]:=⟨_,rfl⟩
   rw[←hz] at hck
   have hz8:=z.toNat_lt
   have HZ:Hid (crcF 4294967295 (l.take (k+1))=crcN z.toNat 8 x):=by
    show _=_
    rw[List.take_succ_eq_append_getElem hlt1,crcF_snoc,←hz,HX.out]
   have hxz:=bits_xor_u32 x z.toNat hx (by omega)
   have hxl:x ^^^ z.toNat<4294967296:=xor32 hx (by omega)
   clear hcell hz e2 e3
   go_wp2
   go_loop [3,17] (fun r i=>∃ j y:Nat,i=.int .i64 j∧r=.int .u32 y∧j≤8∧y<4294967296∧y=pN (x ^^^ z.toNat) j) (fun _ i=>8-(intOf i).toNat)
   case atStart=>exact⟨0,x ^^^ z.toNat,rfl,rfl,by omega,hxl,rfl⟩
   case round=>
    obtain⟨j,y,rfl,rfl,hj,hy,hye⟩:=hrel
    have HY:Hid (y=pN (x ^^^ z.toNat) j):=hye
    clear hye
    by_cases hj8:j<8
    ·have hj8I:(j:Int)<8:=by omega
     have HP:Hid _:=pstep_eq y hy
     go_wp2
     go_round
     case rel=>exact⟨j+1,pStep y,by go_num,by rw[←HP.out,IntKind.wrap_u32],by omega,pStep_lt _ hy,by rw[HY.out];rfl⟩
     case measure=>simp[intOf]<;>omega
    ·have hj8I:¬(j:Int)<8:=by omega
     have HE:Hid (y=crcF 4294967295 (l.take (k+1))):=by
      show _=_
      rw[HY.out,HZ.out,show j=8 by omega,pN_byte]
     go_wp2
     go_round
     case rel=>exact⟨k+1,y,by go_num,rfl,by omega,hy,HE.out⟩
     case measure=>simp[intOf]<;>omega
  ·have hkI:¬(k:Int)<n:=by omega
   have HE:Hid (bits .xor .u32 4294967295 (x:Int)=((crc l:Nat):Int)):=by
    show _=_
    have e:=bits_xor_u32 4294967295 x (by omega) hx
    rw[show((4294967295:Nat):Int)=4294967295 from rfl] at e
    rw[e,not32 x hx,crc,HX.out,List.take_of_length_le (by have:=HN.out;omega)]
   go_wp2
   go_ret
   exact⟨ret_i HE.out,rfl⟩
abbrev Bf (w:World) (base:Nat) (v:Value) (bs:List UInt8):Prop:=w.ownsRow base 5 1 v bs.length (bs.map eU)
theorem eU_one (l:List UInt8):∀ u∈l.map eU,u.oneCell'=true:=by
 intro u hu
 obtain⟨c,_,rfl⟩:=List.mem_map.1 hu
 rfl
theorem strCells_ba (bs:List UInt8):Lib.strCells (ba bs)=bs.map eU:=by simp[Lib.strCells]
structure Wst (g:Nat) (w w':World):Prop where
 bl:Below g w w'
 kp:∀ k,k<w.heap.size→k≠g→(∀ cur,w.heap[k]?≠some (.cells cur 5 (0,0)))→w'.heap[k]?=w.heap[k]?
theorem Wst.refl (g:Nat) (w:World):Wst g w w:=⟨Below.refl _ _,fun _ _ _ _=>rfl⟩
theorem Wst.trans {g:Nat}{x y z:World} (h:Wst g x y) (k:Wst g y z):Wst g x z:=
 ⟨h.bl.trans k.bl,fun j h1 h2 h3=>by
  have e:=h.kp j h1 h2 h3
  exact(k.kp j (Nat.lt_of_lt_of_le h1 h.bl.size) h2 (fun cur=>by rw[e];exact h3 cur)).trans e⟩
theorem Wst.alloc {g:Nat}{x w:World} (h:Wst g x w) (hg:g≤w.heap.size) (o:Obj):Wst g x (w.alloc o):=
 h.trans ⟨(Below.refl g w).alloc hg _,fun k hk _ _=>Below.heap_alloc _ _ _ hk⟩
theorem Wst.set {g:Nat}{x w:World} (h:Wst g x w) (o:Nat) (v:Value):Wst g x (w.setCell ⟨g,o,none⟩ v):=
 h.trans ⟨(Below.refl g w).setCell (p:=⟨g,o,none⟩) (Nat.le_refl _) _,fun k _ hne _=>Below.heap_setCell _ _ _ _ hne⟩
theorem Wst.grown {g:Nat}{x w w':World}{v:Value}{bs:List UInt8} (h:Wst g x w) (hB:Bf w (g+1) v bs) (hg:w.grownBy w' v.ownBlock) (hgl:g≤w.heap.size):Wst g x w':=by
 refine h.trans ⟨(Below.refl g w).grown hg hgl (fun k hk=>by have:=(hB.lt k hk).1;omega),fun k hk _ hn=>hg.block k hk (fun e=>?_)⟩
 obtain⟨_,hr⟩:=hB
 rcases hr with⟨rfl,_⟩|⟨k',cap,cur,rfl,_,hh,_⟩
 ·simp[Value.ownBlock] at e
 ·simp only[Value.ownBlock,Option.some.injEq] at e
  subst e
  exact hn cur hh
theorem Wst.below {g:Nat}{x w w':World} (h:Wst g x w) (hb:Below w.heap.size w w') (hg:g≤w.heap.size):Wst g x w':=
 h.trans ⟨hb.mono hg,fun k hk _ _=>hb.block k hk⟩
structure Wr (w:World) (g:Nat) (big:Bool) (v:Value) (bs:List UInt8):Prop where
 c0:w.cell? ⟨g,0,none⟩=some (.bool big)
 c1:w.cell? ⟨g,1,none⟩=some v
 fz:∀ o,w.frozen? ⟨g,o,none⟩=false
 buf:Bf w (g+1) v bs
theorem Wr.lt {w:World}{g:Nat}{big:Bool}{v:Value}{bs:List UInt8} (h:Wr w g big v bs):g<w.heap.size:=cell_lt h.c0
theorem cell_of_block {w w':World}{g:Nat} (e:w'.heap[g]?=w.heap[g]?) (o:Nat):w'.cell? ⟨g,o,none⟩=w.cell? ⟨g,o,none⟩:=by simp[World.cell?,e]
theorem frozen_of_block {w w':World}{g:Nat} (e:w'.heap[g]?=w.heap[g]?) (o:Nat):w'.frozen? ⟨g,o,none⟩=w.frozen? ⟨g,o,none⟩:=by simp[World.frozen?,e]
theorem Wr.put {w wa w1:World}{g:Nat}{big:Bool}{v v':Value}{bs bs':List UInt8} (h:Wr w g big v bs) (ha:Below w.heap.size w wa) (hg:wa.grownBy w1 v.ownBlock) (hB:Bf w1 (g+1) v' bs'):Wr (w1.setCell ⟨g,1,none⟩ v') g big v' bs'∧w1.cell? ⟨g,1,none⟩=some v∧w1.frozen? ⟨g,1,none⟩=false∧Wst g w (w1.setCell ⟨g,1,none⟩ v'):=by
 have hlt:=h.lt
 have hsz:=ha.size
 have hne:some g≠v.ownBlock:=fun e=>by have:=(h.buf.lt g e.symm).1;omega
 have e1:w1.heap[g]?=w.heap[g]?:=(hg.block g (by omega) hne).trans (ha.block g hlt)
 have hc1:=(cell_of_block e1 1).trans h.c1
 have hBa:Bf wa (g+1) v bs:=World.ownsRow.kept h.buf (row:=none) ⟨ha.os,ha.tape,ha.output,ha.size,fun k hk _=>ha.block k hk⟩ (by
  cases e:v.ownBlock with
  |none=>exact .inl rfl
  |some k=>exact .inr (by simp))
 refine⟨⟨?_,?_,fun o=>?_,?_⟩,hc1,(frozen_of_block e1 1).trans (h.fz 1),(((Wst.refl g w).below ha (by omega)).grown hBa hg (by omega)).set 1 v'⟩
 ·rw[World.cell?_setCell_other _ _ _ _ (by simp)];exact(cell_of_block e1 0).trans h.c0
 ·exact World.cell?_setCell_same _ _ _ hc1
 ·rw[World.frozen?_setCell];exact(frozen_of_block e1 o).trans (h.fz o)
 ·refine World.ownsRow.kept hB (row:=some g) ⟨rfl,rfl,rfl,by simp[World.setCell],fun k _ hk=>Below.heap_setCell _ _ _ _ (fun e=>hk (by rw[e]))⟩ ?_
  exact .inr (fun e=>by have:=(hB.lt g e).1;omega)
theorem Wr.below {w w':World}{g:Nat}{big:Bool}{v:Value}{bs:List UInt8} (h:Wr w g big v bs) (hb:Below w.heap.size w w'):Wr w' g big v bs:=by
 have e1:=hb.block g h.lt
 refine⟨(cell_of_block e1 0).trans h.c0,(cell_of_block e1 1).trans h.c1,fun o=>(frozen_of_block e1 o).trans (h.fz o),World.ownsRow.kept h.buf (row:=none) ⟨hb.os,hb.tape,hb.output,hb.size,fun k hk _=>hb.block k hk⟩ ?_⟩
 cases e:v.ownBlock with
 |none=>exact .inl rfl
 |some k=>exact .inr (by simp)
def WrOut (g:Nat) (big:Bool) (w:World) (bs:List UInt8) (w':World):Prop:=(∃ v,Wr w' g big v bs)∧Wst g w w'
theorem one_cell_new (w:World) (x:Value) (T:TypeId):∀ j u,[x][j]?=some u→(w.alloc (.cells #[x] T)).cell? ((⟨w.heap.size,0,none⟩:Addr).add j)=some u:=by
 intro j u hj
 match j,hj with
 |0,hj=>simp at hj;subst hj;simp[Addr.add,go_sem]
theorem small_w (w:World) (g:Nat) (big:Bool) (v:Value) (bs:List UInt8) (c:UInt8) (h:Wr w g big v bs) (hl:bs.length≤1000000) :
  Calls Tryz.prog 100 #[.pointer (some ⟨g,0,none⟩),.int .u8 c.toNat] w fun e w'=>e=.returned (.tuple #[])∧WrOut g big w (bs++[c]) w':=by
 obtain⟨i0,hi0,hz0,hz1,hz2⟩:=info_parts Tryz.infoU8
 have hlt:=h.lt
 have hc1:=h.c1
 have H:Hid (Wr w g big v bs):=h
 clear h
 go_enter Tryz.func100,Tryz.ntmps100
 go_wp2_with (at_builtin;refine wpList_append_lies _ rfl (.tmp 8) (.tmp 10) 73 rfl (g+1) 5 i0 (.int .u8 0) 1 1 Tryz.underlying73 hi0 hz0 hz1 hz2 rfl (by decide) v bs.length (bs.map eU) rfl (H.out.buf.alloc _) ⟨w.heap.size,0,none⟩ 1 1 [eU c] rfl rfl (one_cell_new _ _ _) (eU_one [c]) (by omega) (by unfold maxLen;omega) (by omega) (by simp;omega) _ rfl ?_)
 intro g1 cap w1 hown hgr _ _
 obtain⟨hw,hc,hf,hst⟩:=H.out.put (wa:=w.alloc (.cells #[eU c] 5)) (v':=.slice (some ⟨g1,0,none⟩) (bs.length+1) cap) (bs':=bs++[c]) ((Below.refl _ _).alloc (Nat.le_refl _) _) hgr (by simpa [Bf] using hown)
 have HW:Hid _:=hw
 have HS:Hid _:=hst
 clear hw hst hown hgr
 go_wp2
 go_end0
 exact⟨rfl,⟨_,HW.out⟩,HS.out⟩
theorem text_w (w:World) (g:Nat) (big:Bool) (v:Value) (bs cs:List UInt8) (h:Wr w g big v bs) (hl:bs.length+cs.length≤1000000) (hp:0<bs.length+cs.length) :
  Calls Tryz.prog 99 #[.pointer (some ⟨g,0,none⟩),.string (ba cs)] w fun e w'=>e=.returned (.tuple #[])∧WrOut g big w (bs++cs) w':=by
 obtain⟨i0,hi0,hz0,hz1,hz2⟩:=info_parts Tryz.infoU8
 have hlt:=h.lt
 have hc1:=h.c1
 have H:Hid (Wr w g big v bs):=h
 clear h
 obtain⟨D,hD⟩:∃ D,D=ba cs:=⟨_,rfl⟩
 have hds:D.size=cs.length:=by rw[hD,ba_size]
 rw[←hD]
 have HD:Hid (D=ba cs):=hD
 clear hD
 go_enter Tryz.func99,Tryz.ntmps99
 go_wp2_with (at_builtin;refine Lib.wpList_append_own_string _ rfl (.tmp 8) (.tmp 9) 73 9 rfl (g+1) 5 i0 Tryz.underlying73 Tryz.underlying9 hi0 hz0 hz1 hz2 v bs.length (bs.map eU) rfl H.out.buf D rfl (by unfold maxLen;omega) (by omega) (by omega) ?_)
 intro v' w1 hown hgr _
 obtain⟨g1,cap,rfl,_,_⟩:=hown.form (by omega)
 obtain⟨hw,hc,hf,hst⟩:=H.out.put (wa:=w) (v':=.slice (some ⟨g1,0,none⟩) (bs.length+cs.length) cap) (bs':=bs++cs) (Below.refl _ _) hgr (by
  have:=hown
  rw[HD.out,strCells_ba] at this
  simpa [Bf] using this)
 have HW:Hid _:=hw
 have HS:Hid _:=hst
 clear hw hst hown hgr
 go_wp2
 go_end0
 exact⟨rfl,⟨_,HW.out⟩,HS.out⟩
open Go.RowKit Go.Shelf
attribute [local go_sem] Oper.semAt_some
theorem ends_in (n:Nat) (g:Nat) (s:ByteArray) (w:World) :
  CallsIn Fence.wide n Tryz.prog 120 #[.pointer (some ⟨g,0,none⟩),.string s] w fun e w'=>e=.returned (.func (.func 171) #[] #[.pointer (some ⟨w.heap.size,0,none⟩),.pointer (some ⟨w.heap.size+1,0,none⟩)])∧w'=(w.alloc (.cells #[.pointer (some ⟨g,0,none⟩)] 92)).alloc (.cells #[.string s] 9):=by
 refine callsIn_of_wp Tryz.func120 rfl trivial ?_ rfl
 simp only[Tryz.ntmps120,List.size_toArray,List.length_cons,List.length_nil,Nat.reduceAdd,Nat.reduceSub,Array.replicate_succ,Array.replicate_zero,List.push_toArray,List.append_toArray,List.nil_append,List.cons_append]
 gi_wp2
 go_ret
 exact⟨rfl,rfl⟩
theorem abides {β:Type}{B:Nat}{J:β→World→Prop}{s:β}{W W':World} (h:AbidesFrom B J) (hj:J s W) (hb:Below W.heap.size W W'):J s W':=
 h s W W' none hj ⟨hb.os,hb.tape,hb.output,hb.size,fun k hk _=>hb.block k hk⟩ (fun r e=>by cases e)
theorem belowDN {B:Nat}{w w':World} (h:Below B w w') (n:Nat):Below B w (w'.drewN n):=⟨h.os,h.tape,h.output,h.size,h.block⟩
theorem iter_in (n:Nat) (hn:2≤n) (l H g:Nat) (t:Tb) (c:Nat) (hok:TbOk t c) (tx:List UInt8) (htx:tx.length≤maxLen) (J Jx:List Nat→World→Prop) (W:World)
  (hJ:AbidesFrom W.heap.size J) (hJx:AbidesFrom W.heap.size Jx)
  (hY:∀ pre x W1,J pre W1→pre.length<tx.length+1→YieldAt Fence.wide (n-1) Tryz.prog l #[.int .i64 (x:Nat)] W1 fun e W'=>
   (e=.returned (.bool true)∧J (pre++[x]) W'∧Kq H W1 W')∨(e=.returned (.bool false)∧Jx (pre++[x]) W'))
  (hau:∀ W',Below H W W'→AuIn W' g t) (hsz:H+3≤W.heap.size)
  (hB1:W.cell? ⟨H+1,0,none⟩=some (.pointer (some ⟨g,0,none⟩))) (hB2:W.cell? ⟨H+2,0,none⟩=some (.string (ba tx))) (h0:J [] W) :
  CallsIn Fence.wide n Tryz.prog 171 #[.func (.yield l) #[] #[],.pointer (some ⟨H+1,0,none⟩),.pointer (some ⟨H+2,0,none⟩)] W fun e W'=>(∃ v,e=.returned v)∧((∃ xs,xs=endsL t tx∧J xs W')∨(∃ pre,pre <+: endsL t tx∧Jx pre W')):=by
 obtain⟨F,hF⟩:∃ F,F=Fence.wide:=⟨_,rfl⟩
 rw[←hF] at hY ⊢
 have hro:F.round=none:=by rw[hF];rfl
 have hf1:F.fn 95:=by rw[hF];trivial
 have hf2:F.fn 171:=by rw[hF];trivial
 have h1:1≤n:=by omega
 have HF:Hid (F=Fence.wide):=hF
 have HIN:Hid (∀ {m f:Nat}{args:Array Value}{w:World}{R:Ending→World→Prop},Calls Tryz.prog f args w R→CallsIn F m Tryz.prog f args w R):=fun h=>by rw[hF];exact callsIn_wide.2 h
 clear hF
 unfold maxLen at htx
 have hbs:=ba_size tx
 obtain⟨N,hN⟩:∃ N,N=tx.length:=⟨_,rfl⟩
 rw[←hN] at hbs htx hY
 have HN:Hid (N=tx.length):=hN
 clear hN
 have hs0:=(hau W (Below.refl _ _)).au
 obtain⟨S0,v0,hau0,_⟩:=hs0
 have k2:=hau0.c2
 have a1:=hok.s1
 have a2:=hok.s2
 have hst:t.start=((stL t (tx.take 0):Nat):Int):=by simp[stL];omega
 rw[hst] at k2
 have HAU:Hid (∀ W',Below H W W'→AuIn W' g t):=hau
 have HB1:Hid (W.cell? ⟨H+1,0,none⟩=some (.pointer (some ⟨g,0,none⟩))):=hB1
 have HB2:Hid (W.cell? ⟨H+2,0,none⟩=some (.string (ba tx))):=hB2
 clear hau hst hau0
 refine callsIn_of_wp Tryz.func171 rfl hf2 ?_ hro
 simp only[Tryz.ntmps171,List.size_toArray,List.length_cons,List.length_nil,Nat.reduceAdd,Nat.reduceSub,Array.replicate_succ,Array.replicate_zero,List.push_toArray,List.append_toArray,List.nil_append,List.cons_append]
 gi_wp2
 gi_loopw [4,12] (fun s i wr=>∃ k:Nat,i=.int .i64 k∧k≤N∧s=.int .u8 (stL t (tx.take k))∧J (eP t tx k) wr∧Kq H W wr∧H+3≤wr.heap.size) (fun _ i _=>N-(intOf i).toNat)
 case atStart=>exact⟨0,rfl,Nat.zero_le _,rfl,h0,Kq.refl _ _,hsz⟩
 case round=>
  clear k2 hB1 hB2 h0
  obtain⟨k,rfl,hk,rfl,hJs,hkq,hsw⟩:=hrel
  have HJ:Hid (J (eP t tx k) wr):=hJs
  have HK:Hid (Kq H W wr):=hkq
  have hau:=HAU.out wr hkq.bl
  obtain⟨S,v,hau1,hS,hrw⟩:=hau.au
  have c1:wr.cell? ⟨H+1,0,none⟩=some (.pointer (some ⟨g,0,none⟩)):=(cell_of_block hkq.k1 0).trans HB1.out
  have c2:wr.cell? ⟨H+2,0,none⟩=some (.string (ba tx)):=(cell_of_block hkq.k2 0).trans HB2.out
  have cb:=hau1.c1
  obtain⟨x0,x1,x2,x3,hset⟩:=hau1.st
  have q0:=hset.c0
  have q1:=hset.c1
  have q2:=hset.c2
  have q3:=hset.c3
  have hsn:=hok.stL (tx.take k)
  have a200:=hok.a2
  obtain⟨sn,hse⟩:∃ sn,sn=stL t (tx.take k):=⟨_,rfl⟩
  rw[←hse] at hsn ⊢
  have hhas:=has_any wr x0 x1 x2 x3 sn S (by omega) hset.wd
  have hSs:S sn=accN t sn:=hS sn (by omega)
  rw[hSs] at hhas
  have HE:Hid (sn=stL t (tx.take k)):=hse
  clear hJs hkq hau hau1 hset hrw hSs hS hse
  by_cases hlt:k<N
  ·have hltI:(k:Int)<N:=by omega
   have hlt1:k<tx.length:=by have:=HN.out;omega
   obtain⟨bk,hbk⟩:∃ bk,bk=tx[k]:=⟨_,rfl⟩
   have hbz:∀ h:k<(ba tx).size,((ba tx)[k]'h).toNat=bk.toNat:=fun h=>by rw[hbk];rfl
   have HS1:Hid (stL t (tx.take (k+1))=stp t sn bk):=by
    show _=_
    rw[List.take_succ_eq_append_getElem hlt1,stL_snoc,HE.out,hbk]
   have HP1:Hid (eP t tx (k+1)=eP t tx k++if (!t.back&&accN t sn) then[k] else[]):=by
    show _=_
    rw[eP_succ,HE.out]
   clear hbk
   have hcl:=hok.cls bk
   have hb8:=bk.toNat_lt
   cases hbck:t.back with
   |true=>
    rw[hbck] at cb HP1
    gi_wp2
    refine⟨fun _ h=>(by cases h),?_⟩
    gi_wp2
    have HJ2:Hid (J (eP t tx (k+1)) wr):=by
     have h:=HJ.out
     show J _ _
     rw[HP1.out];simpa using h
    have HK2:Hid (Kq H W wr):=HK.out
    have hs2:=hsw
    obtain⟨bn,on,cn,ar,lr,cr,d1,d2,d3,d4⟩:=au_step (HAU.out wr HK.out.bl) hok sn hsn bk
    rw[HF.out]
    refine wpIn_wide.2 ?_
    go_quiet (fail)
    gi_wp2
    go_roundw
    case rel=>exact⟨k+1,by go_num,by omega,by rw[HS1.out],abides hJ HJ2.out (belowDN (Below.refl _ _) nq),HK2.out.below (belowDN (Below.refl _ _) nq) hs2,by exact hs2⟩
    case measure=>simp[intOf]<;>omega
   |false=>
    rw[hbck] at cb HP1
    cases hac:accN t sn with
    |false=>
     rw[hac] at hhas HP1
     gi_wp2_with (gi_at_call 95;refine(HIN.out hhas).mono ?_;rintro e w2 ⟨rfl,hb2⟩)
     refine⟨fun _ h=>(by cases h),?_⟩
     gi_wp2
     have HJ2:Hid (J (eP t tx (k+1)) w2):=by
      have h:=abides hJ HJ.out hb2
      show J _ _
      rw[HP1.out];simpa using h
     have HK2:Hid (Kq H W w2):=HK.out.below hb2 hsw
     have hs2:H+3≤w2.heap.size:=Nat.le_trans hsw hb2.size
     have e1:=cell_below hb2 c1
     have e2:=cell_below hb2 c2
     obtain⟨bn,on,cn,ar,lr,cr,d1,d2,d3,d4⟩:=au_step (HAU.out w2 HK2.out.bl) hok sn hsn bk
     clear hb2 hhas
     rw[HF.out]
     refine wpIn_wide.2 ?_
     go_quiet (fail)
     gi_wp2
     go_roundw
     case rel=>exact⟨k+1,by go_num,by omega,by rw[HS1.out],abides hJ HJ2.out (belowDN (Below.refl _ _) nq),HK2.out.below (belowDN (Below.refl _ _) nq) hs2,by exact hs2⟩
     case measure=>simp[intOf]<;>omega
    |true=>
     rw[hac] at hhas HP1
     gi_wp2_with (gi_at_call 95;refine(HIN.out hhas).mono ?_;rintro e w2 ⟨rfl,hb2⟩;obtain⟨fn,tmps,assign,body,hy,hR⟩:=hY (eP t tx k) k w2 (abides hJ HJ.out hb2) (by have:=eP_len t tx k;omega))
     refine hR.mono ?_
     rintro e W3 (⟨rfl,hJ3,hk3⟩|⟨rfl,hJx3⟩)
     ·have HJ2:Hid (J (eP t tx (k+1)) W3):=by
       show J _ _
       rw[HP1.out];simpa using hJ3
      have HK1:Hid (Kq H W w2):=HK.out.below hb2 hsw
      have HK2:Hid (Kq H W W3):=HK1.out.trans hk3
      have hs2:H+3≤W3.heap.size:=Nat.le_trans hsw (Nat.le_trans hb2.size hk3.bl.size)
      have e1:=(cell_of_block hk3.k1 0).trans (cell_below hb2 c1)
      have e2:=(cell_of_block hk3.k2 0).trans (cell_below hb2 c2)
      obtain⟨bn,on,cn,ar,lr,cr,d1,d2,d3,d4⟩:=au_step (HAU.out W3 HK2.out.bl) hok sn hsn bk
      clear hb2 hhas hk3 hJ3 hy hR
      gi_wp2
      rw[HF.out]
      refine wpIn_wide.2 ?_
      go_quiet (fail)
      gi_wp2
      go_roundw
      case rel=>exact⟨k+1,by go_num,by omega,by rw[HS1.out],abides hJ HJ2.out (belowDN (Below.refl _ _) nq),HK2.out.below (belowDN (Below.refl _ _) nq) hs2,by exact hs2⟩
      case measure=>simp[intOf]<;>omega
     ·gi_wp2
      refine bodyPost_ret (results_none rfl _ _ _) rfl ?_
      refine⟨⟨_,rfl⟩,.inr ⟨eP t tx k++[k],?_,hJx3⟩⟩
      have h:=eP_ends t tx (k+1) (by omega)
      rw[HP1.out] at h
      simpa using h
  ·have hkI:¬(k:Int)<N:=by omega
   have hkN:k=tx.length:=by have:=HN.out;omega
   have hst:stL t tx=sn:=by rw[HE.out,hkN,List.take_length]
   have hep:eP t tx k=eP t tx tx.length:=by rw[hkN]
   cases hac:accN t sn with
   |false=>
    rw[hac] at hhas
    have HL:Hid (endsL t tx=eP t tx k):=by show _=_;unfold endsL;rw[hst,hac,←hep];simp
    clear hst hep hkN
    gi_wp2_with (gi_at_call 95;refine(HIN.out hhas).mono ?_;rintro e w2 ⟨rfl,hb2⟩)
    go_end0
    exact⟨⟨_,rfl⟩,.inl ⟨_,HL.out.symm,abides hJ HJ.out hb2⟩⟩
   |true=>
    rw[hac] at hhas
    have HL:Hid (endsL t tx=eP t tx k++[N]):=by show _=_;unfold endsL;rw[hst,hac,←hep,←HN.out];simp
    clear hst hep hkN
    gi_wp2_with (gi_at_call 95;refine(HIN.out hhas).mono ?_;rintro e w2 ⟨rfl,hb2⟩;have e2:=cell_below hb2 c2;obtain⟨fn,tmps,assign,body,hy,hR⟩:=hY (eP t tx k) N w2 (abides hJ HJ.out hb2) (by have:=eP_len t tx k;omega))
    refine hR.mono ?_
    rintro e W3 (⟨rfl,hJ3,hk3⟩|⟨rfl,hJx3⟩)
    ·gi_wp2
     go_end0
     exact⟨⟨_,rfl⟩,.inl ⟨_,HL.out.symm,hJ3⟩⟩
    ·gi_wp2
     go_end0
     exact⟨⟨_,rfl⟩,.inr ⟨_,by rw[HL.out];exact List.prefix_refl _,hJx3⟩⟩
attribute [local go_sem] Oper.semAt_some
theorem all_in (n:Nat) (s:W4) (w:World) :
  CallsIn Fence.wide n Tryz.prog 184 #[seV s.x0 s.x1 s.x2 s.x3] w fun e w'=>e=.returned (.func (.func 200) #[] #[.pointer (some ⟨w.heap.size,0,none⟩)])∧w'=w.alloc (.cells #[.int .u64 (s.x0:Int),.int .u64 (s.x1:Int),.int .u64 (s.x2:Int),.int .u64 (s.x3:Int)] 150):=by
 refine callsIn_of_wp Tryz.func184 rfl trivial ?_ rfl
 simp only[Tryz.ntmps184,List.size_toArray,List.length_cons,List.length_nil,Nat.reduceAdd,Nat.reduceSub,Array.replicate_succ,Array.replicate_zero,List.push_toArray,List.append_toArray,List.nil_append,List.cons_append]
 gi_wp2
 go_ret
 exact⟨rfl,rfl⟩
def W4.wd (s:W4) (i:Nat):Nat:=if i=0 then s.x0 else if i=1 then s.x1 else if i=2 then s.x2 else s.x3
theorem W4.wd_lt {s:W4} (h:s.ok) (i:Nat):s.wd i<18446744073709551616:=by
 unfold W4.wd
 split
 ·exact h.l0
 ·split
  ·exact h.l1
  ·split
   ·exact h.l2
   ·exact h.l3
theorem idx4_any (s:W4) (i:Nat) (hi:i<4) (w:World):(Instr.index 148 (.agg #[.int .u64 (s.x0:Int),.int .u64 (s.x1:Int),.int .u64 (s.x2:Int),.int .u64 (s.x3:Int)]) (.int .i64 (i:Int))).run Tryz.prog w=.ok (.int .u64 (s.wd i:Int)) w:=by
 match i,hi with
 |0,_=>exact idx4_0 _ _ _ _ w
 |1,_=>exact idx4_1 _ _ _ _ w
 |2,_=>exact idx4_2 _ _ _ _ w
 |3,_=>exact idx4_3 _ _ _ _ w
def W4.rest (s:W4):Nat→List Nat
 |0=>s.all
 |1=>(onB s.x1).map (64+·)++((onB s.x2).map (128+·)++(onB s.x3).map (192+·))
 |2=>(onB s.x2).map (128+·)++(onB s.x3).map (192+·)
 |3=>(onB s.x3).map (192+·)
 |_=>[]
theorem W4.rest_step (s:W4) (i:Nat) (hi:i<4):s.rest i=(onB (s.wd i)).map (64*i+·)++s.rest (i+1):=by
 match i,hi with
 |0,_=>simp[W4.rest,W4.all,W4.wd]
 |1,_=>simp[W4.rest,W4.wd]
 |2,_=>simp[W4.rest,W4.wd]
 |3,_=>simp[W4.rest,W4.wd]
structure Kz (q:Nat) (W W':World):Prop where
 size:W.heap.size≤W'.heap.size
 k1:W'.heap[1]?=W.heap[1]?
 k2:W'.heap[q]?=W.heap[q]?
theorem Kz.refl (q:Nat) (W:World):Kz q W W:=⟨Nat.le_refl _,rfl,rfl⟩
theorem Kz.trans {q:Nat}{A B C:World} (h:Kz q A B) (k:Kz q B C):Kz q A C:=⟨Nat.le_trans h.size k.size,k.k1.trans h.k1,k.k2.trans h.k2⟩
theorem iterS_in (n:Nat) (hn:2≤n) (l q:Nat) (s:W4) (hs:s.ok) (J Jx:List {x:Nat // x∈s.all}→World→Prop) (W:World)
  (hJ:AbidesFrom W.heap.size J) (hJx:AbidesFrom W.heap.size Jx)
  (hY:∀ pre x W1,J pre W1→pre.length<s.all.length→YieldAt Fence.wide (n-1) Tryz.prog l #[.int .u8 (x.val:Nat)] W1 fun e W'=>
   (e=.returned (.bool true)∧J (pre++[x]) W'∧Kz q W1 W')∨(e=.returned (.bool false)∧Jx (pre++[x]) W'))
  (hT:TabZ W) (hq:W.heap[q]?=some (.cells #[.int .u64 (s.x0:Int),.int .u64 (s.x1:Int),.int .u64 (s.x2:Int),.int .u64 (s.x3:Int)] 150)) (h0:J [] W) :
  CallsIn Fence.wide n Tryz.prog 200 #[.func (.yield l) #[] #[],.pointer (some ⟨q,0,none⟩)] W fun e W'=>(∃ v,e=.returned v)∧((∃ xs,xs.map Subtype.val=s.all∧J xs W')∨(∃ pre,pre.map Subtype.val <+: s.all∧Jx pre W')):=by
 obtain⟨F,hF⟩:∃ F,F=Fence.wide:=⟨_,rfl⟩
 rw[←hF] at hY ⊢
 have hro:F.round=none:=by rw[hF];rfl
 have hf1:F.fn 201:=by rw[hF];trivial
 have hf2:F.fn 200:=by rw[hF];trivial
 have h1:1≤n:=by omega
 have HF:Hid (F=Fence.wide):=hF
 have HIN:Hid (∀ {m f:Nat}{args:Array Value}{w:World}{R:Ending→World→Prop},Calls Tryz.prog f args w R→CallsIn F m Tryz.prog f args w R):=fun h=>by rw[hF];exact callsIn_wide.2 h
 clear hF
 obtain⟨y0,y1,y2,y3⟩:=box4' hq
 have HIX:=idx4_any s
 have HT:Hid (TabZ W):=hT
 have HS:Hid s.ok:=hs
 clear hq hT hs
 refine callsIn_of_wp Tryz.func200 rfl hf2 ?_ hro
 simp only[Tryz.ntmps200,List.size_toArray,List.length_cons,List.length_nil,Nat.reduceAdd,Nat.reduceSub,Array.replicate_succ,Array.replicate_zero,List.push_toArray,List.append_toArray,List.nil_append,List.cons_append]
 gi_wp2
 gi_loopw [7] (fun i wr=>∃(k:Nat) (pre:List {x:Nat // x∈s.all}),i=.int .i64 k∧k≤4∧pre.map Subtype.val++s.rest k=s.all∧J pre wr∧Kz q W wr) (fun i _=>4-(intOf i).toNat)
 case atStart=>exact⟨0,[],rfl,Nat.zero_le _,rfl,h0,Kz.refl _ _⟩
 case round=>
  clear h0
  obtain⟨k,pre,rfl,hk,hpre,hJs,hkz⟩:=hrel
  have HJ:Hid (J pre wr):=hJs
  have HK:Hid (Kz q W wr):=hkz
  have HP:Hid (pre.map Subtype.val++s.rest k=s.all):=hpre
  clear hJs hkz hpre y0 y1 y2 y3
  by_cases hlt:k<4
  ·have hltI:(k:Int)<4:=by omega
   have hix:=HIX k hlt wr
   have hwl:=W4.wd_lt HS.out k
   clear HIX
   have HR:Hid (s.rest k=(onB (s.wd k)).map (64*k+·)++s.rest (k+1)):=s.rest_step k hlt
   obtain⟨y,hy⟩:∃ y,y=s.wd k:=⟨_,rfl⟩
   rw[←hy] at hix hwl HR
   have HPR:Hid (pre.map Subtype.val++((onB y).map (64*k+·)++s.rest (k+1))=s.all):=by
    show _=_
    rw[←HR.out];exact HP.out
   clear hy HR HP
   gi_wp2
   rename World=>wo
   gi_loopw [4] (fun v wi=>∃(y:Nat) (pre:List {x:Nat // x∈s.all}),v=.int .u64 y∧y<18446744073709551616∧pre.map Subtype.val++((onB y).map (64*k+·)++s.rest (k+1))=s.all∧J pre wi∧Kz q W wi) (fun v _=>(intOf v).toNat)
   case atStart=>exact⟨y,pre,rfl,hwl,HPR.out,HJ.out,HK.out⟩
   case round=>
    clear HJ HK HPR hwl hix
    obtain⟨y',pre',rfl,hyl,hpr,hJ',hK'⟩:=hrel
    have HJ:Hid (J pre' wr):=hJ'
    have HK:Hid (Kz q W wr):=hK'
    have HPR:Hid (pre'.map Subtype.val++((onB y').map (64*k+·)++s.rest (k+1))=s.all):=hpr
    clear hJ' hK' hpr
    by_cases hy0:y'=0
    ·subst hy0
     gi_wp2
     go_roundw
     case rel=>exact⟨k+1,pre',by go_num,by omega,by have:=HPR.out;rw[onB_zero] at this;simpa using this,HJ.out,HK.out⟩
     case measure=>simp[intOf]<;>omega
    ·have hy0I:¬((y':Int)=0):=by omega
     have htz:=HIN.out (m:=n-1) (tz_any y' hyl hy0 wr (HT.out.keep HK.out.k1))
     have hll:=low_lt hy0 hyl
     obtain⟨lw,hlw⟩:∃ lw,lw=low y':=⟨_,rfl⟩
     have HLW:Hid (lw=low y'):=hlw
     rw[←hlw] at htz hll
     clear hlw
     have hmem:64*k+lw∈s.all:=by
      rw[←HPR.out,onB_pos hy0,HLW.out];simp
     have hlen:pre'.length<s.all.length:=by
      have:=congrArg List.length HPR.out
      rw[onB_pos hy0] at this
      simp at this
      omega
     have hYx:=hY pre' ⟨64*k+lw,hmem⟩ wr HJ.out hlen
     have ecast:(((64*k+lw:Nat):Nat):Int)=64*(k:Int)+(lw:Int):=by omega
     simp only[ecast] at hYx
     have hoff:bits BinOp.and IntKind.u64 (y':Int) ((y':Int)-1)=((off1 y':Nat):Int):=by
      have e1:(y':Int)-1=((y' - 1:Nat):Int):=by omega
      rw[e1]
      exact bits_and_u64_nat y' (y' - 1) hyl (by omega)
     gi_wp2_with (gi_at_call 201;refine htz.mono ?_;rintro e w2 ⟨rfl,hw2⟩;obtain rfl:=hw2.symm;obtain⟨fn,tmps,assign,body,hyy,hR⟩:=hYx)
     refine hR.mono ?_
     rintro e W3 (⟨rfl,hJ3,hk3⟩|⟨rfl,hJx3⟩)
     ·have HJ3:Hid (J (pre'++[⟨64*k+lw,hmem⟩]) W3):=hJ3
      have HK3:Hid (Kz q W W3):=HK.out.trans hk3
      clear hJ3 hk3 hyy hR
      gi_wp2
      go_roundw
      case rel=>
       refine⟨off1 y',pre'++[⟨64*k+lw,hmem⟩],rfl,Nat.lt_trans (off1_lt hy0) hyl,?_,HJ3.out,HK3.out⟩
       have:=HPR.out
       rw[onB_pos hy0,←HLW.out] at this
       simpa using this
      case measure=>simp[intOf];exact off1_lt hy0
     ·gi_wp2
      refine bodyPost_ret (results_none rfl _ _ _) rfl ?_
      refine⟨⟨_,rfl⟩,.inr ⟨pre'++[⟨64*k+lw,hmem⟩],?_,hJx3⟩⟩
      refine⟨(onB (off1 y')).map (64*k+·)++s.rest (k+1),?_⟩
      have:=HPR.out
      rw[onB_pos hy0,←HLW.out] at this
      simpa using this
  ·have hkI:¬(k:Int)<4:=by omega
   have hk4:k=4:=by omega
   clear HIX
   gi_wp2
   go_end0
   refine⟨⟨_,rfl⟩,.inl ⟨pre,?_,HJ.out⟩⟩
   have:=HP.out
   rw[hk4] at this
   simpa [W4.rest] using this
theorem small_z (w:World) (g:Nat) (big:Bool) (v:Value) (bs:List UInt8) (c:UInt8) (z:Int) (hz:z=(c.toNat:Int)) (h:Wr w g big v bs) (hl:bs.length≤1000000) :
  Calls Tryz.prog 100 #[.pointer (some ⟨g,0,none⟩),.int .u8 z] w fun e w'=>e=.returned (.tuple #[])∧WrOut g big w (bs++[c]) w':=by
 subst hz
 exact small_w w g big v bs c h hl
theorem WrOut.trans {g:Nat}{big:Bool}{x y z:World}{bs bs':List UInt8} (h:WrOut g big x bs y) (k:WrOut g big y bs' z):WrOut g big x bs' z:=⟨k.1,h.2.trans k.2⟩
theorem WrOut.wr {g:Nat}{big:Bool}{x y:World}{bs:List UInt8} (h:WrOut g big x bs y):∃ v,Wr y g big v bs:=h.1
theorem WrOut.start {g:Nat}{big:Bool}{w:World}{v:Value}{bs:List UInt8} (h:Wr w g big v bs):WrOut g big w bs w:=⟨⟨v,h⟩,Wst.refl _ _⟩
theorem number2 (w:World) (g:Nat) (big:Bool) (v:Value) (bs:List UInt8) (n:Nat) (hn:n<4294967296) (h:Wr w g big v bs) (hl:bs.length+2≤1000000) :
  Calls Tryz.prog 104 #[.pointer (some ⟨g,0,none⟩),.int .u32 n,.int .i64 2] w fun e w'=>e=.returned (.tuple #[])∧WrOut g big w (bs++pr big n) w':=by
 have HS:Hid (WrOut g big w bs w):=WrOut.start h
 clear h
 have hpl:(pr big n).length=2:=by cases big<;>rfl
 go_enter Tryz.func104,Tryz.ntmps104
 go_wp2
 go_loopw [9] (fun i wr=>∃ k:Nat,i=.int .i64 k∧k≤2∧WrOut g big w (bs++(pr big n).take k) wr) (fun i _=>2-(intOf i).toNat)
 case atStart=>exact⟨0,rfl,by omega,by simpa using HS.out⟩
 case round=>
  obtain⟨k,rfl,hk,hout⟩:=hrel
  have HO:Hid (WrOut g big w (bs++(pr big n).take k) wr):=hout
  obtain⟨v1,hv1⟩:=hout.wr
  have hl1:(bs++(pr big n).take k).length≤1000000:=by simp[hpl];omega
  have c0:=hv1.c0
  have HV:Hid (Wr wr g big v1 (bs++(pr big n).take k)):=hv1
  clear hv1 hout
  rcases(show k=0∨k=1∨k=2 by omega) with rfl|rfl|rfl
  ·cases big with
   |false=>
    go_wp2_with (go_at_call 100;refine(small_z _ g _ v1 _ (UInt8.ofNat n) _ (by simp) HV.out hl1).mono ?_;rintro e w2 ⟨rfl,ho2⟩)
    go_roundw
    case rel=>exact⟨1,by go_num,by omega,by simpa [pr] using HO.out.trans ho2⟩
    case measure=>simp[intOf]<;>omega
   |true=>
    go_wp2_with (go_at_call 100;refine(small_z _ g _ v1 _ (UInt8.ofNat (n / 256)) _ (by simp) HV.out hl1).mono ?_;rintro e w2 ⟨rfl,ho2⟩)
    go_roundw
    case rel=>exact⟨1,by go_num,by omega,by simpa [pr] using HO.out.trans ho2⟩
    case measure=>simp[intOf]<;>omega
  ·cases big with
   |false=>
    go_wp2_with (go_at_call 100;refine(small_z _ g _ v1 _ (UInt8.ofNat (n / 256)) _ (by simp) HV.out hl1).mono ?_;rintro e w2 ⟨rfl,ho2⟩)
    go_roundw
    case rel=>exact⟨2,by go_num,by omega,by simpa [pr] using HO.out.trans ho2⟩
    case measure=>simp[intOf]<;>omega
   |true=>
    go_wp2_with (go_at_call 100;refine(small_z _ g _ v1 _ (UInt8.ofNat n) _ (by simp) HV.out hl1).mono ?_;rintro e w2 ⟨rfl,ho2⟩)
    go_roundw
    case rel=>exact⟨2,by go_num,by omega,by simpa [pr] using HO.out.trans ho2⟩
    case measure=>simp[intOf]<;>omega
  ·go_wp2
   go_end0
   have:=HO.out
   rw[List.take_of_length_le (by omega)] at this
   exact⟨rfl,this⟩
theorem number4 (w:World) (g:Nat) (big:Bool) (v:Value) (bs:List UInt8) (n:Nat) (hn:n<4294967296) (h:Wr w g big v bs) (hl:bs.length+4≤1000000) :
  Calls Tryz.prog 104 #[.pointer (some ⟨g,0,none⟩),.int .u32 n,.int .i64 4] w fun e w'=>e=.returned (.tuple #[])∧WrOut g big w (bs++num4 big n) w':=by
 have HS:Hid (WrOut g big w bs w):=WrOut.start h
 clear h
 have hpl:(num4 big n).length=4:=by cases big<;>rfl
 go_enter Tryz.func104,Tryz.ntmps104
 go_wp2
 go_loopw [9] (fun i wr=>∃ k:Nat,i=.int .i64 k∧k≤4∧WrOut g big w (bs++(num4 big n).take k) wr) (fun i _=>4-(intOf i).toNat)
 case atStart=>exact⟨0,rfl,by omega,by simpa using HS.out⟩
 case round=>
  obtain⟨k,rfl,hk,hout⟩:=hrel
  have HO:Hid (WrOut g big w (bs++(num4 big n).take k) wr):=hout
  obtain⟨v1,hv1⟩:=hout.wr
  have hl1:(bs++(num4 big n).take k).length≤1000000:=by simp[hpl];omega
  have c0:=hv1.c0
  have HV:Hid (Wr wr g big v1 (bs++(num4 big n).take k)):=hv1
  clear hv1 hout
  rcases(show k=0∨k=1∨k=2∨k=3∨k=4 by omega) with rfl|rfl|rfl|rfl|rfl
  ·cases big with
   |false=>
    go_wp2_with (go_at_call 100;refine(small_z _ g _ v1 _ (UInt8.ofNat (n )) _ (by first|(simp;done)|(simp;omega)) HV.out hl1).mono ?_;rintro e w2 ⟨rfl,ho2⟩)
    go_roundw
    case rel=>exact⟨1,by go_num,by omega,by simpa [num4] using HO.out.trans ho2⟩
    case measure=>simp[intOf]<;>omega
   |true=>
    go_wp2_with (go_at_call 100;refine(small_z _ g _ v1 _ (UInt8.ofNat (n / 16777216)) _ (by first|(simp;done)|(simp;omega)) HV.out hl1).mono ?_;rintro e w2 ⟨rfl,ho2⟩)
    go_roundw
    case rel=>exact⟨1,by go_num,by omega,by simpa [num4] using HO.out.trans ho2⟩
    case measure=>simp[intOf]<;>omega
  ·cases big with
   |false=>
    go_wp2_with (go_at_call 100;refine(small_z _ g _ v1 _ (UInt8.ofNat (n / 256)) _ (by first|(simp;done)|(simp;omega)) HV.out hl1).mono ?_;rintro e w2 ⟨rfl,ho2⟩)
    go_roundw
    case rel=>exact⟨2,by go_num,by omega,by simpa [num4] using HO.out.trans ho2⟩
    case measure=>simp[intOf]<;>omega
   |true=>
    go_wp2_with (go_at_call 100;refine(small_z _ g _ v1 _ (UInt8.ofNat (n / 65536)) _ (by first|(simp;done)|(simp;omega)) HV.out hl1).mono ?_;rintro e w2 ⟨rfl,ho2⟩)
    go_roundw
    case rel=>exact⟨2,by go_num,by omega,by simpa [num4] using HO.out.trans ho2⟩
    case measure=>simp[intOf]<;>omega
  ·cases big with
   |false=>
    go_wp2_with (go_at_call 100;refine(small_z _ g _ v1 _ (UInt8.ofNat (n / 65536)) _ (by first|(simp;done)|(simp;omega)) HV.out hl1).mono ?_;rintro e w2 ⟨rfl,ho2⟩)
    go_roundw
    case rel=>exact⟨3,by go_num,by omega,by simpa [num4] using HO.out.trans ho2⟩
    case measure=>simp[intOf]<;>omega
   |true=>
    go_wp2_with (go_at_call 100;refine(small_z _ g _ v1 _ (UInt8.ofNat (n / 256)) _ (by first|(simp;done)|(simp;omega)) HV.out hl1).mono ?_;rintro e w2 ⟨rfl,ho2⟩)
    go_roundw
    case rel=>exact⟨3,by go_num,by omega,by simpa [num4] using HO.out.trans ho2⟩
    case measure=>simp[intOf]<;>omega
  ·cases big with
   |false=>
    go_wp2_with (go_at_call 100;refine(small_z _ g _ v1 _ (UInt8.ofNat (n / 16777216)) _ (by first|(simp;done)|(simp;omega)) HV.out hl1).mono ?_;rintro e w2 ⟨rfl,ho2⟩)
    go_roundw
    case rel=>exact⟨4,by go_num,by omega,by simpa [num4] using HO.out.trans ho2⟩
    case measure=>simp[intOf]<;>omega
   |true=>
    go_wp2_with (go_at_call 100;refine(small_z _ g _ v1 _ (UInt8.ofNat (n )) _ (by first|(simp;done)|(simp;omega)) HV.out hl1).mono ?_;rintro e w2 ⟨rfl,ho2⟩)
    go_roundw
    case rel=>exact⟨4,by go_num,by omega,by simpa [num4] using HO.out.trans ho2⟩
    case measure=>simp[intOf]<;>omega
  ·go_wp2
   go_end0
   have:=HO.out
   rw[List.take_of_length_le (by omega)] at this
   exact⟨rfl,this⟩
theorem pair_w (w:World) (g:Nat) (big:Bool) (v:Value) (bs:List UInt8) (n:Nat) (hn:n<65536) (h:Wr w g big v bs) (hl:bs.length+2≤1000000) :
  Calls Tryz.prog 102 #[.pointer (some ⟨g,0,none⟩),.int .i64 n] w fun e w'=>e=.returned (.tuple #[])∧WrOut g big w (bs++pr big n) w':=by
 have hc:=number2 w g big v bs n (by omega) h hl
 have hm:(n:Int)%4294967296=n:=by omega
 have hw:IntKind.u32.wrap (n:Int)=n:=by rw[IntKind.wrap_u32];omega
 have H:Hid (Calls Tryz.prog 104 #[.pointer (some ⟨g,0,none⟩),.int .u32 n,.int .i64 2] w fun e w'=>e=.returned (.tuple #[])∧WrOut g big w (bs++pr big n) w'):=hc
 clear hc h
 go_enter Tryz.func102,Tryz.ntmps102
 go_wp2_with (go_at_call 104;refine H.out.mono ?_;rintro e w2 ⟨rfl,ho2⟩)
 go_end0
 exact⟨rfl,ho2⟩
theorem bit_any (b:Bool) (w:World):Calls Tryz.prog 101 #[.bool b] w fun e w'=>e=.returned (.int .u8 (bt b))∧w'=w:=by
 cases b
 ·go_enter Tryz.func101,Tryz.ntmps101
  go_wp2
  go_ret
  exact⟨rfl,rfl⟩
 ·go_enter Tryz.func101,Tryz.ntmps101
  go_wp2
  go_ret
  exact⟨rfl,rfl⟩
def flR (rs:List (Nat×Int)):List Value:=rs.flatMap fun r=>[.int .i64 (r.1:Int),.int .i64 r.2]
theorem flR_len (rs:List (Nat×Int)):(flR rs).length=rs.length*2:=by
 induction rs with
 |nil=>rfl
 |cons r t ih=>simp only[flR,List.flatMap_cons,List.length_append,List.length_cons,List.length_nil] at ih ⊢;omega
theorem flR_snoc (rs:List (Nat×Int)) (c:Nat) (z:Int):flR (rs++[(c,z)])=flR rs++[.int .i64 (c:Int),.int .i64 z]:=by simp[flR]
theorem runs_last (row:List Int) (z:Int):∃ i c,runs (row++[z])=i++[(c,z)]:=by
 rw[runs_snoc]
 rcases List.eq_nil_or_concat (runs row) with e|⟨i,⟨c,y⟩,e⟩
 ·rw[e];exact⟨[],1,rfl⟩
 ·rw[e]
  simp only[stepR,List.concat_eq_append,List.getLast?_append,List.getLast?_singleton,Option.some_or,List.dropLast_concat]
  split
  ·rename_i h;subst h;exact⟨i,c+1,rfl⟩
  ·exact⟨i++[(c,y)],1,rfl⟩
theorem stepR_same (i:List (Nat×Int)) (c:Nat) (z:Int):stepR (i++[(c,z)]) z=i++[(c+1,z)]:=by
 simp[stepR]
theorem stepR_other (i:List (Nat×Int)) (c:Nat) (y z:Int) (h:y≠z):stepR (i++[(c,y)]) z=i++[(c,y)]++[(1,z)]:=by
 simp[stepR,h]
theorem Tryz.infoRun:(Tryz.prog.info? 314).map (fun i=>(i.zero,i.size,i.bytes))=some (some (.agg #[.int .i64 0,.int .i64 0]),2,16):=by kernel_rfl
theorem two_cells_new (w:World) (x y:Value) (T:TypeId):∀ j u,[x,y][j]?=some u→(w.alloc (.cells #[x,y] T)).cell? ((⟨w.heap.size,0,none⟩:Addr).add j)=some u:=by
 intro j u hj
 match j,hj with
 |0,hj=>simp at hj;subst hj;simp[Addr.add,go_sem]
 |1,hj=>simp at hj;subst hj;simp[Addr.add,go_sem]
abbrev Rn (w:World) (base:Nat) (v:Value) (rs:List (Nat×Int)):Prop:=w.ownsRow base 314 2 v rs.length (flR rs)
theorem Rn.inc {w:World}{base g cap n:Nat}{i:List (Nat×Int)}{c:Nat}{z:Int} (h:Rn w base (.slice (some ⟨g,0,none⟩) n cap) (i++[(c,z)])) (hn:n=i.length+1) :
  w.cell? ⟨g,i.length*2,none⟩=some (.int .i64 (c:Int))∧w.frozen? ⟨g,i.length*2,none⟩=false∧Rn (w.setCell ⟨g,i.length*2,none⟩ (.int .i64 ((c:Int)+1))) base (.slice (some ⟨g,0,none⟩) n cap) (i++[(c+1,z)])∧w.grownBy (w.setCell ⟨g,i.length*2,none⟩ (.int .i64 ((c:Int)+1))) (some g):=by
 subst hn
 have hl:(i++[(c,z)]).length=i.length+1:=by simp
 have h':w.ownsRow base 314 2 (.slice (some ⟨g,0,none⟩) (i.length+1) cap) (i.length+1) (flR (i++[(c,z)])):=by rw[←hl];simpa [Rn] using h
 have e:flR (i++[(c,z)])=flR i++[.int .i64 (c:Int),.int .i64 z]:=flR_snoc _ _ _
 refine⟨?_,h'.frozenAt _,?_,(h'.stored _ _).2⟩
 ·rw[h'.cellAt _ (by omega),e,List.getElem?_append_right (by rw[flR_len];exact Nat.le_refl _),flR_len];simp
 ·have h2:=(h'.stored (i.length*2) (.int .i64 ((c:Int)+1))).1
  rw[e,List.set_append_right _ _ (by rw[flR_len];exact Nat.le_refl _),flR_len] at h2
  simp only[Nat.sub_self,List.set_cons_zero] at h2
  have e2:flR (i++[(c+1,z)])=flR i++[.int .i64 ((c:Int)+1),.int .i64 z]:=by rw[flR_snoc];simp
  show World.ownsRow _ _ _ _ _ _ _
  rw[e2]
  simpa using h2
theorem runs_le (row:List Int) (k:Nat):(runs (row.take k)).length≤k:=by
 have:=runs_len (row.take k)
 simp at this
 omega
theorem Rn.size {w:World}{base:Nat}{v:Value}{rs:List (Nat×Int)} (h:Rn w base v rs):∀ k,v.ownBlock=some k→base≤k:=fun k hk=>(h.lt k hk).1
theorem below_grown {B:Nat}{w w1 w':World}{row:Option Nat} (h:Below B w w1) (hg:w1.grownBy w' row) (hb:B≤w1.heap.size) (hr:∀ k,row=some k→B≤k):Below B w w':=h.grown hg hb hr
theorem runsOf_any (w:World) (v:Value) (zs:List Int) (hv:RowE eI w v zs) (hl:zs.length≤65536) :
  Calls Tryz.prog 192 #[v] w fun e w'=>∃ v',e=.returned v'∧Rn w' w.heap.size v' (runs zs)∧Below w.heap.size w w':=by
 obtain⟨i0,hi0,hz0,hz1,hz2⟩:=info_parts Tryz.infoRun
 obtain⟨a,c,hform⟩:=hv.form
 subst hform
 obtain⟨n,hn⟩:∃ n,n=zs.length:=⟨_,rfl⟩
 have HN:Hid (n=zs.length):=hn
 rw[←hn] at hl ⊢
 have HV:Hid (RowE eI w (.slice a n c) zs):=by show RowE _ _ _ _;rw[hn];exact hv
 clear hn hv
 go_enter Tryz.func192,Tryz.ntmps192
 go_wp2
 go_loopw [3,8] (fun r i wr=>∃ k:Nat,i=.int .i64 k∧k≤n∧Rn wr w.heap.size r (runs (zs.take k))∧Below w.heap.size w wr) (fun _ i _=>n-(intOf i).toNat)
 case atStart=>exact⟨0,rfl,Nat.zero_le _,World.ownsRow_nil _ _ _ _,Below.refl _ _⟩
 case round=>
  obtain⟨k,rfl,hk,hrn,hbl⟩:=hrel
  have HR:Hid (Rn wr w.heap.size u3 (runs (zs.take k))):=hrn
  have HB:Hid (Below w.heap.size w wr):=hbl
  have hszw:=hbl.size
  clear hrn hbl
  by_cases hlt:k<n
  ·have hlt1:k<zs.length:=by have:=HN.out;omega
   have hltI:(k:Int)<n:=by omega
   obtain⟨b,o,c',hform,hcell⟩:=(HV.out.below HB.out).nonnil (by omega)
   injection hform with e1 e2 e3
   subst e1
   have hck:=hcell k hlt1
   have hlen:=runs_le zs k
   have HTK:Hid (runs (zs.take (k+1))=stepR (runs (zs.take k)) zs[k]):=by
    show _=_
    rw[List.take_succ_eq_append_getElem hlt1,runs_snoc]
   by_cases hk0:k=0
   ·subst hk0
    obtain⟨z,hz⟩:∃ z,z=zs[0]:=⟨_,rfl⟩
    rw[←hz,Nat.add_zero] at hck
    have HT3:Hid (runs (zs.take (0+1))=[]++[(1,z)]):=by
     show _=_
     rw[HTK.out,←hz];rfl
    have HRL:Hid (World.ownsRow wr w.heap.size 314 2 u3 0 []):=HR.out
    clear hz e2 e3 hcell HTK HR
    go_wp2_with (at_builtin;refine wpList_append_lies _ rfl (.tmp 24) (.tmp 27) 311 rfl w.heap.size 314 i0 (.agg #[.int .i64 0,.int .i64 0]) 2 16 Tryz.underlying311 hi0 hz0 hz1 hz2 rfl (by decide) u3 0 ([]) rfl (World.ownsRow.alloc HRL.out _) ⟨wr.heap.size,0,none⟩ 1 1 [.int .i64 0,.int .i64 z] rfl rfl (two_cells_new _ _ _ _) (by simp[Value.oneCell']) (by omega) (by unfold maxLen;omega) (by omega) (by simp;omega) _ rfl ?_)
    intro g1 cap1 w1 hown hgr hat hlt
    have hown':Rn w1 w.heap.size (.slice (some ⟨g1,0,none⟩) (0+1) cap1) ([]++[(0,z)]):=hown
    obtain⟨f1,f2,f3,f4⟩:=Rn.inc hown' rfl
    have F3:Hid (Rn (w1.setCell ⟨g1,0,none⟩ (.int .i64 (((0:Nat):Int)+1))) w.heap.size (.slice (some ⟨g1,0,none⟩) (0+1) cap1) ([]++[(0+1,z)])):=f3
    have F4:Hid (w1.grownBy (w1.setCell ⟨g1,0,none⟩ (.int .i64 (((0:Nat):Int)+1))) (some g1)):=f4
    have hgb:=(hown'.lt g1 rfl).1
    have HB1:Hid (Below w.heap.size w w1):=below_grown (HB.out.alloc hszw _) hgr (by simp;omega) (fun q e=>(HRL.out.lt q e).1)
    have hs1:=HB1.out.size
    simp only[List.length_nil,Nat.zero_mul] at f1 f2
    clear f3 f4 hown hown' hgr hat
    go_wp2
    go_roundw
    case rel=>exact⟨1,by go_num,by omega,by rw[HT3.out];exact F3.out,below_grown HB1.out F4.out hs1 (fun q e=>by injection e with e;omega)⟩
    case measure=>simp[intOf]<;>omega
   ·have hkp:(1:Int)≤k:=by omega
    have hk0':((k:Int)==0)=false:=by simpa using hk0
    have hcp:=hcell (k-1) (by omega)
    obtain⟨z,hz⟩:∃ z,z=zs[k]:=⟨_,rfl⟩
    obtain⟨y,hy⟩:∃ y,y=zs[k-1]:=⟨_,rfl⟩
    rw[←hz] at hck
    rw[←hy] at hcp
    obtain⟨i,cc,hlast⟩:∃ i c,runs (zs.take k)=i++[(c,y)]:=by
     have e:zs.take k=zs.take (k-1)++[y]:=by
      have:=List.take_succ_eq_append_getElem (l:=zs) (i:=k-1) (by omega)
      rw[show k-1+1=k by omega] at this
      rw[this,hy]
     rw[e];exact runs_last _ _
    obtain⟨g,cap,hu3,hg1,hg2⟩:=HR.out.form (by rw[hlast];simp)
    obtain⟨m,hm⟩:∃ m,m=i.length:=⟨_,rfl⟩
    have hln:(runs (zs.take k)).length=m+1:=by rw[hlast,hm];simp
    rw[hln] at hu3 hlen
    subst hu3
    have HR1:Hid (Rn wr w.heap.size (.slice (some ⟨g,0,none⟩) (m+1) cap) (i++[(cc,y)])):=by
     show Rn _ _ _ _
     rw[←hlast];exact HR.out
    obtain⟨d1,d2,d3,d4⟩:=HR1.out.inc (by rw[hm])
    rw[←hm] at d1 d2 d3 d4
    have D3:Hid (Rn (wr.setCell ⟨g,m*2,none⟩ (.int .i64 ((cc:Int)+1))) w.heap.size (.slice (some ⟨g,0,none⟩) (m+1) cap) (i++[(cc+1,y)])):=d3
    have D4:Hid (wr.grownBy (wr.setCell ⟨g,m*2,none⟩ (.int .i64 ((cc:Int)+1))) (some g)):=d4
    have HTK2:Hid (runs (zs.take (k+1))=stepR (i++[(cc,y)]) z):=by show _=_;rw[HTK.out,hlast,hz]
    have HM:Hid (m=i.length):=hm
    have hcc:cc≤65536:=by
     have:=(runs_mem (zs.take k) (cc,y) (by rw[hlast];simp)).1
     simp at this
     omega
    clear d3 d4 hm hln hlast hz hy e2 e3 hcell HTK HR
    by_cases hyz:y=z
    ·have HT3:Hid (runs (zs.take (k+1))=i++[(cc+1,y)]):=by show _=_;rw[HTK2.out,←hyz,stepR_same]
     go_wp2
     go_roundw
     case rel=>exact⟨k+1,by go_num,by omega,by rw[HT3.out];exact D3.out,below_grown HB.out D4.out hszw (fun q e=>by injection e with e;omega)⟩
     case measure=>simp[intOf]<;>omega
    ·have HT3:Hid (runs (zs.take (k+1))=i++[(cc,y)]++[(1,z)]):=by show _=_;rw[HTK2.out,stepR_other _ _ _ _ hyz]
     have hzy:(z != y)=true:=by simpa using fun e=>hyz e.symm
     have HRL:Hid (World.ownsRow wr w.heap.size 314 2 (.slice (some ⟨g,0,none⟩) (m+1) cap) (m+1) (flR (i++[(cc,y)]))):=by
      show World.ownsRow _ _ _ _ _ _ _
      have:=HR1.out
      rw[Rn,show(i++[(cc,y)]).length=m+1 by simp[HM.out]] at this
      exact this
     clear d1 d2 D3 D4 hyz
     go_wp2_with (at_builtin;refine wpList_append_lies _ rfl (.tmp 24) (.tmp 27) 311 rfl w.heap.size 314 i0 (.agg #[.int .i64 0,.int .i64 0]) 2 16 Tryz.underlying311 hi0 hz0 hz1 hz2 rfl (by decide) (.slice (some ⟨g,0,none⟩) (m+1) cap) (m+1) (flR (i++[(cc,y)])) rfl (World.ownsRow.alloc HRL.out _) ⟨wr.heap.size,0,none⟩ 1 1 [.int .i64 0,.int .i64 z] rfl rfl (two_cells_new _ _ _ _) (by simp[Value.oneCell']) (by omega) (by unfold maxLen;omega) (by omega) (by simp;omega) _ rfl ?_)
     intro g1 cap1 w1 hown hgr hat hlt
     have hown':Rn w1 w.heap.size (.slice (some ⟨g1,0,none⟩) (m+1+1) cap1) (i++[(cc,y)]++[(0,z)]):=by
      have e:(i++[(cc,y)]++[(0,z)]).length=m+1+1:=by simp[HM.out]
      show w1.ownsRow w.heap.size 314 2 (.slice (some ⟨g1,0,none⟩) (m+1+1) cap1) (i++[(cc,y)]++[(0,z)]).length (flR (i++[(cc,y)]++[(0,z)]))
      rw[e,flR_snoc]
      exact hown
     obtain⟨f1,f2,f3,f4⟩:=Rn.inc hown' (by simp[HM.out])
     rw[show(i++[(cc,y)]).length=m+1 by simp[HM.out]] at f1 f2 f3 f4
     have F3:Hid (Rn (w1.setCell ⟨g1,(m+1)*2,none⟩ (.int .i64 (((0:Nat):Int)+1))) w.heap.size (.slice (some ⟨g1,0,none⟩) (m+1+1) cap1) (i++[(cc,y)]++[(0+1,z)])):=f3
     have F4:Hid (w1.grownBy (w1.setCell ⟨g1,(m+1)*2,none⟩ (.int .i64 (((0:Nat):Int)+1))) (some g1)):=f4
     have hgb:=(hown'.lt g1 rfl).1
     have HB1:Hid (Below w.heap.size w w1):=below_grown (HB.out.alloc hszw _) hgr (by simp;omega) (fun q e=>(HRL.out.lt q e).1)
     have hs1:=HB1.out.size
     clear f3 f4 hown hown' hgr hat
     go_wp2
     go_roundw
     case rel=>exact⟨k+1,by go_num,by omega,by rw[HT3.out];exact F3.out,below_grown HB1.out F4.out hs1 (fun q e=>by injection e with e;omega)⟩
     case measure=>simp[intOf]<;>omega
  ·have hkI:¬(k:Int)<n:=by omega
   go_wp2
   go_ret
   have e:zs.take k=zs:=List.take_of_length_le (by have:=HN.out;omega)
   have h:=HR.out
   rw[e] at h
   exact⟨_,rfl,h,HB.out⟩
theorem Rn.cells2 {w:World}{base:Nat}{v:Value}{rs:List (Nat×Int)} (h:Rn w base v rs) (hp:0<rs.length):∃ g cap,v=.slice (some ⟨g,0,none⟩) rs.length cap∧base≤g∧∀ k (hk:k<rs.length),w.cell? ⟨g,k*2,none⟩=some (.int .i64 (rs[k].1:Int))∧w.cell? ⟨g,k*2+1,none⟩=some (.int .i64 rs[k].2):=by
 obtain⟨g,cap,rfl,h1,h2⟩:=h.form hp
 refine⟨g,cap,rfl,h1,fun k hk=>?_⟩
 have e:∀(l:List (Nat×Int)) (k:Nat) (hk:k<l.length),(flR l)[k*2]?=some (.int .i64 (l[k].1:Int))∧(flR l)[k*2+1]?=some (.int .i64 l[k].2):=by
  intro l
  induction l with
  |nil=>intro k hk;simp at hk
  |cons r t ih=>
   intro k hk
   cases k with
   |zero=>simp[flR]
   |succ k=>
    have:=ih k (by simpa using hk)
    simp only[flR,List.flatMap_cons,List.cons_append,List.nil_append,show(k+1)*2=k*2+1+1 by omega,List.getElem?_cons_succ,List.getElem_cons_succ] at this ⊢
    exact this
 have:=e rs k hk
 exact⟨(h.cellAt _ (by omega)).trans this.1,(h.cellAt _ (by omega)).trans this.2⟩
theorem Rn.shape {w:World}{base n:Nat}{v:Value}{rs:List (Nat×Int)} (h:Rn w base v rs) (hn:n=rs.length):∃ a c,v=.slice a n c:=by
 subst hn
 rcases h.2 with⟨rfl,h0⟩|⟨q,cap,cur,rfl,_⟩
 ·exact⟨none,0,by rw[h0]⟩
 ·exact⟨_,cap,rfl⟩
theorem Rn.wst {w w':World}{g base:Nat}{v:Value}{rs:List (Nat×Int)} (h:Rn w base v rs) (hb:g<base) (hw:Wst g w w'):Rn w' base v rs:=by
 refine⟨h.1,?_⟩
 rcases h.2 with hn|⟨q,cap,cur,rfl,hq,hh,rest⟩
 ·exact .inl hn
 ·refine .inr ⟨q,cap,cur,rfl,hq,(hw.kp q (Array.getElem?_eq_some_iff.1 hh).1 (by omega) (fun cur' e=>?_)).trans hh,rest⟩
  rw[hh] at e
  injection e with e
  injection e with _ e
  exact absurd e (by decide)
theorem Rn.below {w w':World}{base:Nat}{v:Value}{rs:List (Nat×Int)} (h:Rn w base v rs) (hb:Below w.heap.size w w'):Rn w' base v rs:=
 World.ownsRow.kept h (row:=none) ⟨hb.os,hb.tape,hb.output,hb.size,fun k hk _=>hb.block k hk⟩ (by
  cases e:v.ownBlock with
  |none=>exact .inl rfl
  |some k=>exact .inr (by simp))
theorem WrOut.below {g:Nat}{big:Bool}{x y z:World}{bs:List UInt8} (h:WrOut g big x bs y) (hb:Below y.heap.size y z):WrOut g big x bs z:=by
 obtain⟨⟨v,hv⟩,h2⟩:=h
 exact⟨⟨v,hv.below hb⟩,h2.below hb (Nat.le_of_lt hv.lt)⟩
theorem pair_z (w:World) (g:Nat) (big:Bool) (bs:List UInt8) (n:Nat) (z:Int) (hz:z=(n:Int)) (hn:n<65536) (h:∃ v,Wr w g big v bs) (hl:bs.length+2≤1000000) :
  Calls Tryz.prog 102 #[.pointer (some ⟨g,0,none⟩),.int .i64 z] w fun e w'=>e=.returned (.tuple #[])∧WrOut g big w (bs++pr big n) w':=by
 subst hz
 obtain⟨v,h⟩:=h
 exact pair_w w g big v bs n hn h hl
theorem pr_len (big:Bool) (n:Nat):(pr big n).length=2:=by cases big<;>rfl
theorem wrRs_len (big:Bool) (rs:List (Nat×Int)):(rs.flatMap (wrR big)).length=4*rs.length:=by
 induction rs with
 |nil=>rfl
 |cons r t ih=>simp only[List.flatMap_cons,List.length_append,ih,wrR,pr_len,List.length_cons];omega
theorem Wst.blk {g:Nat}{w w':World}{b:Nat}{cs:Array Value}{T:TypeId}{fr:Nat×Nat} (h:Wst g w w') (hb:w.heap[b]?=some (.cells cs T fr)) (hne:b≠g) (hT:T≠5):w'.heap[b]?=some (.cells cs T fr):=
 (h.kp b (Array.getElem?_eq_some_iff.1 hb).1 hne (fun cur e=>by rw[hb] at e;injection e with e;injection e with _ e _;exact hT e)).trans hb
theorem sparse_w (w:World) (g:Nat) (big:Bool) (bs:List UInt8) (v:Value) (zs:List Int) (h:∃ v,Wr w g big v bs) (hv:RowE eI w v zs) (hl:zs.length≤256) (ho:∀ z∈zs,okZ z) (hbl:bs.length+2000≤1000000) :
  Calls Tryz.prog 161 #[.pointer (some ⟨g,0,none⟩),v] w fun e w'=>e=.returned (.tuple #[])∧WrOut g big w (bs++wrRow 1 big zs) w':=by
 have hru:=runsOf_any w v zs hv (by omega)
 have hm:=runs_mem zs
 have hln:=runs_len zs
 obtain⟨rs,hrs⟩:∃ rs,rs=runs zs:=⟨_,rfl⟩
 rw[←hrs] at hru hm hln
 have HE:Hid (wrRow 1 big zs=pr big rs.length++rs.flatMap (wrR big)):=by show _=_;rw[hrs];rfl
 have HM:Hid (∀ r∈rs,r.1≤256∧okZ r.2):=fun r hr=>⟨by have:=(hm r hr).1;omega,ho _ (hm r hr).2⟩
 obtain⟨n,hn⟩:∃ n,n=rs.length:=⟨_,rfl⟩
 have HN:Hid (n=rs.length):=hn
 have hn256:n≤256:=by omega
 have H:Hid (∃ v,Wr w g big v bs):=h
 have hgl:g<w.heap.size:=by obtain⟨v,h⟩:=h;exact h.lt
 have hnl:(pr big n).length=2:=pr_len _ _
 clear hm hln hrs ho hl hn h
 go_enter Tryz.func161,Tryz.ntmps161
 go_wp2_with (first|(go_at_call 102;refine(pair_z w1 g big bs n _ rfl (by omega) HV1.out (by omega)).mono ?_;rintro e w2 ⟨rfl,ho2⟩;have HO2:Hid _:=ho2;clear ho2)|(go_at_call 192;refine hru.mono ?_;rintro e w1 ⟨v1,rfl,hrn,hb1⟩;obtain⟨a1,c1,hform⟩:=hrn.shape HN.out;subst hform;have HV1:Hid (∃ v,Wr w1 g big v bs):=(by obtain⟨v,h⟩:=H.out;exact⟨v,h.below hb1⟩);have HRN:Hid (Rn w1 w.heap.size (.slice a1 n c1) rs):=hrn;have HB1:Hid (Below w.heap.size w w1):=hb1;clear hrn hb1))
 have HO3:Hid (WrOut g big w (bs++pr big n) w2):=⟨HO2.out.1,((Wst.refl g w).below HB1.out (by omega)).trans HO2.out.2⟩
 have HR3:Hid (Rn w2 w.heap.size (.slice a1 n c1) rs):=HRN.out.wst hgl HO2.out.2
 clear HO2 HRN HV1 HB1
 go_loopw [15] (fun i wr=>∃ k:Nat,i=.int .i64 k∧k≤n∧WrOut g big w (bs++pr big n++(rs.take k).flatMap (wrR big)) wr∧Rn wr w.heap.size (.slice a1 n c1) rs) (fun i _=>n-(intOf i).toNat)
 case atStart=>exact⟨0,rfl,Nat.zero_le _,by simpa using HO3.out,HR3.out⟩
 case round=>
  obtain⟨k,rfl,hk,hout,hrn⟩:=hrel
  have HO:Hid (WrOut g big w (bs++pr big n++(rs.take k).flatMap (wrR big)) wr):=hout
  have HRN:Hid (Rn wr w.heap.size (.slice a1 n c1) rs):=hrn
  have hlk:(bs++pr big n++(rs.take k).flatMap (wrR big)).length+4≤1000000:=by
   rw[List.length_append,List.length_append,wrRs_len,hnl];simp;have:=HN.out;omega
  have hgw:g<wr.heap.size:=by obtain⟨v,h⟩:=hout.wr;exact h.lt
  clear hout hrn HO3 HR3
  by_cases hlt:k<n
  ·have hlt1:k<rs.length:=by have:=HN.out;omega
   have hltI:(k:Int)<n:=by omega
   obtain⟨q,cap,hform,hq,hcs⟩:=HRN.out.cells2 (by omega)
   injection hform with e1 e2 e3
   subst e1
   obtain⟨d1,d2⟩:=hcs k hlt1
   have hmr:=HM.out rs[k] (List.getElem_mem hlt1)
   obtain⟨r,hr⟩:∃ r,r=rs[k]:=⟨_,rfl⟩
   rw[←hr] at d1 d2 hmr
   obtain⟨c,z⟩:=r
   simp only at d1 d2 hmr
   have HT:Hid ((rs.take (k+1)).flatMap (wrR big)=(rs.take k).flatMap (wrR big)++(pr big c++pr big z.toNat)):=by
    show _=_
    rw[List.take_succ_eq_append_getElem hlt1,List.flatMap_append,←hr];simp[wrR]
   clear hcs e2 e3 hr
   obtain⟨B,hB⟩:∃ B,B=bs++pr big n++(rs.take k).flatMap (wrR big):=⟨_,rfl⟩
   have HBq:Hid (B=bs++pr big n++(rs.take k).flatMap (wrR big)):=hB
   have HO':Hid (WrOut g big w B wr):=by show WrOut _ _ _ _ _;rw[hB];exact HO.out
   rw[←hB] at hlk
   clear hB HO
   have hBA:Below wr.heap.size wr (wr.alloc (.cells #[.int .i64 c,.int .i64 z] 314)):=(Below.refl _ _).alloc (Nat.le_refl _) _
   have HV:Hid (WrOut g big w B (wr.alloc (.cells #[.int .i64 c,.int .i64 z] 314))):=HO'.out.below hBA
   have HRA:Hid (Rn (wr.alloc (.cells #[.int .i64 c,.int .i64 z] 314)) w.heap.size (.slice (some ⟨q,0,none⟩) n c1) rs):=HRN.out.below hBA
   have hzN:z=((z.toNat:Nat):Int):=by have:=hmr.2.1;omega
   have HZN:Hid (z=((z.toNat:Nat):Int)):=hzN
   have hz1:=hmr.2.1
   have hz2:=hmr.2.2
   have hc1:=hmr.1
   clear hBA hzN hmr HRN HO'
   go_wp2_with (first|(go_at_call 102;refine(pair_z w2 g big (B++pr big c) z.toNat _ HZN.out (by omega) HO2.out.wr (by rw[List.length_append,pr_len];omega)).mono ?_;rintro e w3 ⟨rfl,ho3⟩;have HO3:Hid (WrOut g big w2 (B++pr big c++pr big z.toNat) w3):=ho3;clear ho3)|(go_at_call 102;refine(pair_z _ g big B c _ rfl (by omega) HV.out.wr (by omega)).mono ?_;rintro e w2 ⟨rfl,ho2⟩;have hb2:=ho2.2.blk (heap_alloc_new wr _) (by omega) (by decide);have f0:w2.cell? ⟨wr.heap.size,0,none⟩=some (.int .i64 c):=(by simp[World.cell?,hb2]);have f1:w2.cell? ⟨wr.heap.size,1,none⟩=some (.int .i64 z):=(by simp[World.cell?,hb2]);have HO2:Hid (WrOut g big (wr.alloc (.cells #[.int .i64 c,.int .i64 z] 314)) (B++pr big c) w2):=ho2;clear ho2 hb2))
   go_roundw
   case rel=>
    refine⟨k+1,by go_num,by omega,?_,(HRA.out.wst hgl HO2.out.2).wst hgl HO3.out.2⟩
    rw[HT.out,←List.append_assoc,←HBq.out,←List.append_assoc]
    exact(HV.out.trans HO2.out).trans HO3.out
   case measure=>simp[intOf]<;>omega
  ·have hkI:¬(k:Int)<n:=by omega
   go_wp2
   go_end0
   refine⟨rfl,?_⟩
   have h:=HO.out
   rw[List.take_of_length_le (by have:=HN.out;omega),List.append_assoc] at h
   rw[HE.out,←HN.out]
   exact h
def Stb (g:Nat) (w:World) (P:World→Prop):Prop:=∀ w',Below g w w'→P w'
theorem Stb.now {g:Nat}{w:World}{P:World→Prop} (h:Stb g w P):P w:=h w (Below.refl _ _)
theorem prs_len (big:Bool) (zs:List Int):(zs.flatMap fun z=>pr big z.toNat).length=2*zs.length:=by
 induction zs with
 |nil=>rfl
 |cons r t ih=>simp only[List.flatMap_cons,List.length_append,ih,pr_len,List.length_cons];omega
theorem dense_w (w:World) (g:Nat) (big:Bool) (bs:List UInt8) (v:Value) (zs:List Int) (h:∃ v,Wr w g big v bs) (hv:Stb g w fun w=>RowE eI w v zs) (hl:zs.length≤256) (ho:∀ z∈zs,okZ z) (hbl:bs.length+2000≤1000000) :
  Calls Tryz.prog 103 #[.pointer (some ⟨g,0,none⟩),v,.int .i64 0] w fun e w'=>e=.returned (.tuple #[])∧WrOut g big w (bs++wrRow 0 big zs) w':=by
 obtain⟨a,c,hform⟩:=hv.now.form
 subst hform
 obtain⟨n,hn⟩:∃ n,n=zs.length:=⟨_,rfl⟩
 have HN:Hid (n=zs.length):=hn
 rw[←hn] at hl ⊢
 have HV:Hid (Stb g w fun w=>RowE eI w (.slice a n c) zs):=by show Stb _ _ _;rw[hn];exact hv
 have HE:Hid (wrRow 0 big zs=zs.flatMap fun z=>pr big z.toNat):=by show _=_;rfl
 have HO:Hid (∀ z∈zs,okZ z):=ho
 have H:Hid (∃ v,Wr w g big v bs):=h
 clear hn hv ho h
 go_enter Tryz.func103,Tryz.ntmps103
 go_wp2
 go_loopw [15] (fun i wr=>∃ k:Nat,i=.int .i64 k∧k≤n∧WrOut g big w (bs++(zs.take k).flatMap fun z=>pr big z.toNat) wr) (fun i _=>n-(intOf i).toNat)
 case atStart=>exact⟨0,rfl,Nat.zero_le _,by obtain⟨v,h⟩:=H.out;simpa using WrOut.start h⟩
 case round=>
  obtain⟨k,rfl,hk,hout⟩:=hrel
  have hlk:(bs++(zs.take k).flatMap fun z=>pr big z.toNat).length+2≤1000000:=by
   rw[List.length_append,prs_len];simp;have:=HN.out;omega
  obtain⟨B,hB⟩:∃ B,B=bs++(zs.take k).flatMap fun z=>pr big z.toNat:=⟨_,rfl⟩
  have HBq:Hid (B=bs++(zs.take k).flatMap fun z=>pr big z.toNat):=hB
  rw[←hB] at hlk hout
  have HW:Hid (WrOut g big w B wr):=hout
  clear hout hB
  by_cases hlt:k<n
  ·have hlt1:k<zs.length:=by have:=HN.out;omega
   have hltI:(k:Int)<n:=by omega
   obtain⟨b,o,c',hform,hcell⟩:=(HV.out wr HW.out.2.bl).nonnil (by omega)
   injection hform with e1 e2 e3
   subst e1
   have hck:=hcell k hlt1
   have hoz:=HO.out zs[k] (List.getElem_mem hlt1)
   obtain⟨z,hz⟩:∃ z,z=zs[k]:=⟨_,rfl⟩
   rw[←hz] at hck hoz
   have HT:Hid (((zs.take (k+1)).flatMap fun z=>pr big z.toNat)=((zs.take k).flatMap fun z=>pr big z.toNat)++pr big z.toNat):=by
    show _=_
    rw[List.take_succ_eq_append_getElem hlt1,List.flatMap_append,←hz];simp
   have HZN:Hid (z=((z.toNat:Nat):Int)):=by show _=_;have:=hoz.1;omega
   have hz1:=hoz.1
   have hz2:=hoz.2
   clear hz e2 e3 hcell hoz
   go_wp2_with (go_at_call 102;refine(pair_z _ g big B z.toNat _ HZN.out (by omega) HW.out.wr (by omega)).mono ?_;rintro e w3 ⟨rfl,ho3⟩;have HO3:Hid (WrOut g big wr (B++pr big z.toNat) w3):=ho3;clear ho3)
   go_roundw
   case rel=>
    refine⟨k+1,by go_num,by omega,?_⟩
    rw[HT.out,←List.append_assoc,←HBq.out]
    exact HW.out.trans HO3.out
   case measure=>simp[intOf]<;>omega
  ·have hkI:¬(k:Int)<n:=by omega
   go_wp2
   go_end0
   refine⟨rfl,?_⟩
   have h:=HW.out
   rw[HBq.out,List.take_of_length_le (by have:=HN.out;omega)] at h
   rw[HE.out]
   exact h
theorem row1_w (w:World) (g:Nat) (big:Bool) (bs:List UInt8) (v:Value) (zs:List Int) (h:∃ v,Wr w g big v bs) (hv:RowE eI w v zs) (hl:zs.length≤256) (ho:∀ z∈zs,okZ z) (hbl:bs.length+2000≤1000000) :
  Calls Tryz.prog 103 #[.pointer (some ⟨g,0,none⟩),v,.int .i64 1] w fun e w'=>e=.returned (.tuple #[])∧WrOut g big w (bs++wrRow 1 big zs) w':=by
 have HC:Hid (Calls Tryz.prog 161 #[.pointer (some ⟨g,0,none⟩),v] w fun e w'=>e=.returned (.tuple #[])∧WrOut g big w (bs++wrRow 1 big zs) w'):=sparse_w w g big bs v zs h hv hl ho hbl
 clear h hv hl ho hbl
 go_enter Tryz.func103,Tryz.ntmps103
 go_wp2_with (go_at_call 161;refine HC.out.mono ?_;rintro e w3 ⟨rfl,ho3⟩)
 refine bodyPost_ret (results_none rfl _ _ _) rfl ?_
 exact⟨rfl,ho3⟩
theorem row_w (w:World) (g:Nat) (big:Bool) (bs:List UInt8) (v:Value) (zs:List Int) (kind:Nat) (z:Int) (hz:z=(kind:Int)) (hk:kind≤1) (h:∃ v,Wr w g big v bs) (hv:Stb g w fun w=>RowE eI w v zs) (hl:zs.length≤256) (ho:∀ z∈zs,okZ z) (hbl:bs.length+2000≤1000000) :
  Calls Tryz.prog 103 #[.pointer (some ⟨g,0,none⟩),v,.int .i64 z] w fun e w'=>e=.returned (.tuple #[])∧WrOut g big w (bs++wrRow kind big zs) w':=by
 subst hz
 rcases(show kind=0∨kind=1 by omega) with rfl|rfl
 ·exact dense_w w g big bs v zs h hv hl ho hbl
 ·exact row1_w w g big bs v zs h hv.now hl ho hbl
theorem wrRow_len (kind:Nat) (big:Bool) (zs:List Int) (h:zs.length≤256):(wrRow kind big zs).length≤1026:=by
 unfold wrRow
 split
 ·rw[List.length_append,wrRs_len,pr_len];have:=runs_len zs;omega
 ·rw[prs_len];omega
structure Wok (t:Tb):Prop where
 a2:t.acc.length≤200
 n1:1≤t.next.length
 n2:t.next.length≤200
 st:okZ t.start
 r:∀ r∈t.next,r.length≤256∧∀ z∈r,okZ z
 cl:t.cls.length≤256
theorem box6 {w:World}{b:Nat}{x0 x1 x2 x3 x4 x5:Value}{T:TypeId} (h:w.heap[b]?=some (.cells #[x0,x1,x2,x3,x4,x5] T)):w.cell? ⟨b,0,none⟩=some x0∧w.cell? ⟨b,1,none⟩=some x1∧w.cell? ⟨b,2,none⟩=some x2∧w.cell? ⟨b,3,none⟩=some x3∧w.cell? ⟨b,4,none⟩=some x4∧w.cell? ⟨b,5,none⟩=some x5:=by
 refine⟨?_,?_,?_,?_,?_,?_⟩<;>simp[World.cell?,h]
theorem und_str:Tryz.prog.underlying 9=some .string:=by kernel_rfl
theorem und_byte:Tryz.prog.underlying 5=some (.int .u8):=by kernel_rfl
theorem conv_bf {w:World}{base:Nat}{v:Value}{bs:List UInt8} (h:Bf w base v bs):(convert 73 9 v).run Tryz.prog w=.ok (.string (ba bs)) w:=by
 obtain⟨hl,hr⟩:=h
 rcases hr with⟨rfl,hn⟩|⟨k,cap,cur,rfl,h1,hh,h2⟩
 ·have:bs=[]:=List.length_eq_zero_iff.1 (by simpa using hn)
  subst this
  exact Lib.run_convert_nil_bytes w _ _ _ 0 Tryz.underlying73 und_byte und_str
 ·refine run_convert_bytes_back w _ _ _ _ cap bs Tryz.underlying73 und_byte und_str ?_
  refine Lib.bytes_of_row hh ?_
  have:=h2.2.2.2
  rw[Nat.mul_one] at this
  rw[this]
  simp[Lib.byteCells]
theorem bf_row {w:World}{base:Nat}{v:Value}{bs:List UInt8} (h:Bf w base v bs):RowE eU w v bs:=by
 rcases h.2 with⟨rfl,hn⟩|⟨k,cap,cur,rfl,_⟩
 ·exact .inl ⟨List.length_eq_zero_iff.1 (by simpa using hn),_,_,rfl⟩
 ·refine .inr ⟨k,0,cap,rfl,fun j hj=>?_⟩
  rw[Nat.zero_add,h.cellAt j (by omega)]
  simp[hj]
theorem Wr.new (w:World) (big:Bool):Wr (w.alloc (.cells #[.bool big,.slice none 0 0] 200)) w.heap.size big (.slice none 0 0) []:=
 ⟨by simp[go_sem],by simp[go_sem],fun o=>by simp[go_sem],World.ownsRow_nil _ _ _ _⟩
theorem text_o (w:World) (g:Nat) (big:Bool) (bs cs:List UInt8) (s:ByteArray) (hs:s=ba cs) (h:∃ v,Wr w g big v bs) (hl:bs.length+cs.length≤1000000) (hp:0<bs.length+cs.length) :
  Calls Tryz.prog 99 #[.pointer (some ⟨g,0,none⟩),.string s] w fun e w'=>e=.returned (.tuple #[])∧WrOut g big w (bs++cs) w':=by
 subst hs
 obtain⟨v,h⟩:=h
 exact text_w w g big v bs cs h hl hp
theorem small_o (w:World) (g:Nat) (big:Bool) (bs:List UInt8) (c:UInt8) (z:Int) (hz:z=(c.toNat:Int)) (h:∃ v,Wr w g big v bs) (hl:bs.length≤1000000) :
  Calls Tryz.prog 100 #[.pointer (some ⟨g,0,none⟩),.int .u8 z] w fun e w'=>e=.returned (.tuple #[])∧WrOut g big w (bs++[c]) w':=by
 subst hz
 obtain⟨v,h⟩:=h
 exact small_w w g big v bs c h hl
def h1 (t:Tb) (kind:Nat) (big:Bool):List UInt8:=mk5++[UInt8.ofNat kind]++[UInt8.ofNat (bt t.front+2*bt t.back)]++[wrA big]
theorem hd_eq (t:Tb) (kind:Nat) (big:Bool):hd t kind big=h1 t kind big++pr big t.acc.length++pr big (t.next.headD []).length++pr big t.start.toNat++t.cls:=rfl
theorem rowsW_len (kind:Nat) (big:Bool):∀ l:List (List Int),(∀ r∈l,r.length≤256)→(l.flatMap (wrRow kind big)).length≤1026*l.length
 |[],_=>by simp
 |r::t,h=>by
  have h1:=wrRow_len kind big r (h r (by simp))
  have h2:=rowsW_len kind big t (fun x hx=>h x (by simp[hx]))
  simp only[List.flatMap_cons,List.length_append,List.length_cons]
  omega
theorem hd_len (t:Tb) (kind:Nat) (big:Bool) (h:t.cls.length≤256):(hd t kind big).length≤270:=by
 rw[hd_eq];simp[h1,mk5,pr_len];omega
structure Rdr (w:World) (g:Nat) (big:Bool) (l:List UInt8):Prop where
 c0:w.cell? ⟨g,0,none⟩=some (.bool big)
 c1:w.cell? ⟨g,1,none⟩=some (.string (ba l))
 fz:∀ o,w.frozen? ⟨g,o,none⟩=false
 sz:l.length≤maxLen
theorem Rdr.lt {w:World}{g:Nat}{big:Bool}{l:List UInt8} (h:Rdr w g big l):g<w.heap.size:=cell_lt h.c0
def RdOut (g:Nat) (big:Bool) (w:World) (l:List UInt8) (w':World):Prop:=Rdr w' g big l∧w.grownBy w' (some g)
theorem grown_refl (w:World) (r:Option Nat):w.grownBy w r:=⟨rfl,rfl,rfl,Nat.le_refl _,fun _ _ _=>rfl⟩
theorem grown_trans {x y z:World}{r:Option Nat} (h:x.grownBy y r) (k:y.grownBy z r):x.grownBy z r:=
 ⟨k.os.trans h.os,k.tape.trans h.tape,k.output.trans h.output,Nat.le_trans h.size k.size,fun j h1 h2=>(k.block j (Nat.lt_of_lt_of_le h1 h.size) h2).trans (h.block j h1 h2)⟩
theorem grown_set (w:World) (g o:Nat) (v:Value):w.grownBy (w.setCell ⟨g,o,none⟩ v) (some g):=
 ⟨rfl,rfl,rfl,by simp[World.setCell],fun k _ hk=>Below.heap_setCell _ _ _ _ (fun e=>hk (by rw[e]))⟩
theorem RdOut.trans {g:Nat}{big:Bool}{x y z:World}{l l':List UInt8} (h:RdOut g big x l y) (k:RdOut g big y l' z):RdOut g big x l' z:=⟨k.1,grown_trans h.2 k.2⟩
theorem RdOut.start {g:Nat}{big:Bool}{w:World}{l:List UInt8} (h:Rdr w g big l):RdOut g big w l w:=⟨h,grown_refl _ _⟩
theorem Rdr.put {w:World}{g:Nat}{big:Bool}{l l':List UInt8} (h:Rdr w g big l) (hl:l'.length≤l.length):RdOut g big w l' (w.setCell ⟨g,1,none⟩ (.string (ba l'))):=
 ⟨⟨by rw[World.cell?_setCell_other _ _ _ _ (by simp)];exact h.c0,World.cell?_setCell_same _ _ _ h.c1,fun o=>by rw[World.frozen?_setCell];exact h.fz o,Nat.le_trans hl h.sz⟩,grown_set _ _ _ _⟩
theorem Rdr.of_block {w w':World}{g:Nat}{big:Bool}{l:List UInt8} (h:Rdr w g big l) (e:w'.heap[g]?=w.heap[g]?):Rdr w' g big l:=
 ⟨(cell_of_block e 0).trans h.c0,(cell_of_block e 1).trans h.c1,fun o=>(frozen_of_block e o).trans (h.fz o),h.sz⟩
theorem Rdr.below {w w':World}{g:Nat}{big:Bool}{l:List UInt8} (h:Rdr w g big l) (hb:Below w.heap.size w w'):Rdr w' g big l:=h.of_block (hb.block g h.lt)
theorem ba_extract (l:List UInt8) (a b:Nat):(ba l).extract a b=ba ((l.take b).drop a):=by
 apply ByteArray.ext
 rw[ByteArray.data_extract]
 apply Array.ext'
 simp[List.extract_eq_take_drop,List.drop_take]
theorem ba_take (l:List UInt8) (n:Nat):(ba l).extract 0 n=ba (l.take n):=by rw[ba_extract];rfl
theorem ba_drop (l:List UInt8) (n:Nat):(ba l).extract n l.length=ba (l.drop n):=by rw[ba_extract,List.take_length]
theorem ret_s {a b:ByteArray} (h:a=b):Ending.returned (.string a)=.returned (.string b):=by rw[h]
theorem text_r (w:World) (g:Nat) (big:Bool) (l:List UInt8) (n:Nat) (hn:n≤300) (h:Rdr w g big l) :
  Calls Tryz.prog 106 #[.pointer (some ⟨g,0,none⟩),.int .i64 n] w fun e w'=>e=.returned (.string (ba (l.take n)))∧RdOut g big w (l.drop n) w':=by
 have c1:=h.c1
 have f1:=h.fz 1
 have hsz:=h.sz
 unfold maxLen at hsz
 have hbs:=ba_size l
 have H:Hid (Rdr w g big l):=h
 clear h
 by_cases hc:n≤l.length
 ·have hcI:(n:Int)≤l.length:=by omega
  go_enter Tryz.func106,Tryz.ntmps106
  go_wp2
  go_ret
  refine⟨ret_s (ba_take l n),?_⟩
  have:=H.out.put (l':=l.drop n) (by simp)
  rw[←ba_drop] at this
  exact this
 ·have hcI:¬(n:Int)≤l.length:=by omega
  have hcJ:(l.length:Int)<n:=by omega
  go_enter Tryz.func106,Tryz.ntmps106
  go_wp2
  go_ret
  refine⟨ret_s (by rw[ba_take,List.take_of_length_le (Nat.le_refl _),List.take_of_length_le (by omega)]),?_⟩
  rw[List.drop_of_length_le (by omega)]
  exact H.out.put (l':=[]) (by simp)
theorem tail1 (l:List UInt8):l.drop 1=(rdS l).2:=by cases l<;>rfl
theorem small_r (w:World) (g:Nat) (big:Bool) (l:List UInt8) (h:Rdr w g big l) :
  Calls Tryz.prog 107 #[.pointer (some ⟨g,0,none⟩)] w fun e w'=>e=.returned (.int .u8 (rdS l).1)∧RdOut g big w (rdS l).2 w':=by
 have HT:Hid (Calls Tryz.prog 106 #[.pointer (some ⟨g,0,none⟩),.int .i64 1] w fun e w'=>e=.returned (.string (ba (l.take 1)))∧RdOut g big w (rdS l).2 w'):=by
  show Calls _ _ _ _ _
  rw[←tail1]
  exact text_r w g big l 1 (by omega) h
 clear h
 cases l with
 |nil=>
  go_enter Tryz.func107,Tryz.ntmps107
  go_wp2_with (go_at_call 106;refine HT.out.mono ?_;rintro e w2 ⟨rfl,ho2⟩;have HO2:Hid _:=ho2;clear ho2)
  go_ret
  exact⟨rfl,HO2.out⟩
 |cons c t=>
  go_enter Tryz.func107,Tryz.ntmps107
  go_wp2_with (go_at_call 106;refine HT.out.mono ?_;rintro e w2 ⟨rfl,ho2⟩;have HO2:Hid _:=ho2;clear ho2)
  go_ret
  exact⟨rfl,HO2.out⟩
theorem pair_r (w:World) (g:Nat) (big:Bool) (l:List UInt8) (h:Rdr w g big l) :
  Calls Tryz.prog 108 #[.pointer (some ⟨g,0,none⟩)] w fun e w'=>e=.returned (.int .i64 (rdP big l).1)∧RdOut g big w (rdP big l).2 w':=by
 have HS1:Hid (Calls Tryz.prog 107 #[.pointer (some ⟨g,0,none⟩)] w fun e w'=>e=.returned (.int .u8 (rdS l).1)∧RdOut g big w (rdS l).2 w'):=small_r w g big l h
 have b1:=rdS_lt l
 have b2:=rdS_lt (rdS l).2
 obtain⟨x,hx⟩:∃ x,x=(rdS l).1:=⟨_,rfl⟩
 obtain⟨l1,hl1⟩:∃ x,x=(rdS l).2:=⟨_,rfl⟩
 obtain⟨y,hy⟩:∃ x,x=(rdS l1).1:=⟨_,rfl⟩
 obtain⟨l2,hl2⟩:∃ x,x=(rdS l1).2:=⟨_,rfl⟩
 rw[←hx] at HS1 b1
 rw[←hl1] at HS1 b2
 rw[←hy] at b2
 have HS2:Hid (∀ w,Rdr w g big l1→Calls Tryz.prog 107 #[.pointer (some ⟨g,0,none⟩)] w fun e w'=>e=.returned (.int .u8 y)∧RdOut g big w l2 w'):=fun w h=>by rw[hy,hl2];exact small_r w g big l1 h
 have HP:Hid (rdP big l=(if big then y+256*x else x+256*y,l2)):=by show _=_;rw[hy,hl2,hl1,hx];rfl
 clear hx hl1 hy hl2 h
 cases big with
 |false=>
  go_enter Tryz.func108,Tryz.ntmps108
  go_wp2_with (first|(go_at_call 107;refine(HS2.out _ HO1.out.1).mono ?_;rintro e w2 ⟨rfl,ho2⟩;have HO2:Hid (RdOut g false w1 l2 w2):=ho2;have c0:=ho2.1.c0;clear ho2)|(go_at_call 107;refine HS1.out.mono ?_;rintro e w1 ⟨rfl,ho1⟩;have HO1:Hid (RdOut g false w l1 w1):=ho1;clear ho1))
  go_ret
  rw[HP.out]
  exact⟨ret_i (by simp;omega),HO1.out.trans HO2.out⟩
 |true=>
  go_enter Tryz.func108,Tryz.ntmps108
  go_wp2_with (first|(go_at_call 107;refine(HS2.out _ HO1.out.1).mono ?_;rintro e w2 ⟨rfl,ho2⟩;have HO2:Hid (RdOut g true w1 l2 w2):=ho2;have c0:=ho2.1.c0;clear ho2)|(go_at_call 107;refine HS1.out.mono ?_;rintro e w1 ⟨rfl,ho1⟩;have HO1:Hid (RdOut g true w l1 w1):=ho1;clear ho1))
  go_ret
  rw[HP.out]
  exact⟨ret_i (by simp;omega),HO1.out.trans HO2.out⟩
end Go.Proofs.YtbjabpodkaokjaaGreatDoor
