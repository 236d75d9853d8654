import Derived.Test.YtbjabpodkaokjaaGreatDoorCC03
import Derived.Great.BuildSlice
import Derived.Great.Ranges
import Derived.Deep.MidRow
set_option linter.all false
set_option maxHeartbeats 4000000
set_option maxRecDepth 100000
open List Nat Go.World Go.Proofs.Tryz
namespace Go.Proofs.YtbjabpodkaokjaaGreatDoor.Sx
open Go.RowKit
variable {w:World}{g:Nat}{kind:Int}{B:Nat->Bool}{kv:Value}{mn mx sg:Int}{v:Value}{a:Addr}{i:Nat}{w':World}{cs:List (List aO)}
def iv {a b:Addr} (h:a≠b):(w.setCell a v).cell? b=w.cell? b:=cell?_setCell_other _ _ _ _ h
def cP {u v:Value} (h:w.cell? a=some u):(w.setCell a v).cell? a=some v:=cell?_setCell_same _ _ _ h
def bL (B:Nat->Bool):List Value:=(List.range 256).map λi=>.bool (B i)
def bA (B:Nat->Bool):Array Value:=(bL B).toArray
theorem dc (B:Nat->Bool):(bL B).length=256:=by simp[bL]
theorem cC (B:Nat->Bool):(bA B).size=256:=by simp[bA,dc]
variable (B i) in
def mg (h:i<256):(bL B)[i]?=some (.bool (B i)):=by simp[bL,h]
variable (B i) in
def Kg (h:i<256):(bA B)[i]?=some (.bool (B i)):=by simp[bA,bL,h]
def tA (kind:Int) (B:Nat->Bool) (kv:Value) (mn mx:Int) (sg:Int):Array Value:=([Value.int .i64 kind]++bL B++[kv,.int .i64 mn,.int .i64 mx,.int .u8 sg]).toArray
theorem If:prog.built 187 []=some (tA 0 (λ_=>false) (.slice none 0 0) 0 0 0):=κ
def E9:prog.built 187 [(0,.int .i64 1)]=some (tA 1 (λ_=>false) (.slice none 0 0) 0 0 0):=κ
def E_:prog.built 187 [(0,.int .i64 2)]=some (tA 2 (λ_=>false) (.slice none 0 0) 0 0 0):=κ
def Ig:prog.built 184 []=some (bA λ_=>false):=κ
def fU:(prog.info? 184).map (·.size)=some 256:=κ
def Tryz.infoA:(prog.info? 184).map (λi=>(i.zero,i.size,i.bytes))=some (some (.agg (bA λ_=>false)),256,256):=κ
structure Tr (w:World) (g:Nat) (kind:Int) (B:Nat->Bool) (kv:Value) (mn mx:Int) (sg:Int):Prop where
 c0:w.cell? ⟨g,0,none⟩=some (.int .i64 kind)
 cB:∀ i,i<256->w.cell? ⟨g,1+i,none⟩=some (.bool (B i))
 ck:w.cell? ⟨g,257,none⟩=some kv
 cm:w.cell? ⟨g,258,none⟩=some (.int .i64 mn)
 cx:w.cell? ⟨g,259,none⟩=some (.int .i64 mx)
 cs:w.cell? ⟨g,260,none⟩=some (.int .u8 sg)
 fz:∀ o,w.frozen? ⟨g,o,none⟩=false
def Tr.lt (h:Tr w g kind B kv mn mx sg):g<w.heap.size:=by
 rcases Nat.lt_or_ge g w.heap.size with q|q
 .exact q
 .have:=h.c0;simp[cell?,Array.getElem?_eq_none q] at this
def Tr.of_heap (h:Tr w g kind B kv mn mx sg) (hb:w'.heap[g]?=w.heap[g]?):Tr w' g kind B kv mn mx sg:=by
 have hc:∀ o,w'.cell? ⟨g,o,none⟩=w.cell? ⟨g,o,none⟩:=λo=>by simp[cell?,hb]
 have hf:∀ o,w'.frozen? ⟨g,o,none⟩=w.frozen? ⟨g,o,none⟩:=λo=>by simp[frozen?,hb]
 obtain⟨c0,cB,ck,cm,cx,cs,fz⟩:=h;exact⟨(hc _).trans c0,λi hi=>(hc _).trans (cB i hi),(hc _).trans ck,(hc _).trans cm,(hc _).trans cx,(hc _).trans cs,λo=>(hf o).trans (fz o)⟩
variable (w kind B kv mn mx sg) in
def Fa:Tr (w.alloc (.cells (tA kind B kv mn mx sg) 187)) w.heap.size kind B kv mn mx sg:=by
 have hc:∀ o,(w.alloc (.cells (tA kind B kv mn mx sg) 187)).cell? ⟨w.heap.size,o,none⟩=(tA kind B kv mn mx sg)[o]?:=λo=>cell?_alloc_at _ _ _ _ rfl
 have hl:=dc B;refine⟨?_,λi hi=>?_,?_,?_,?_,?_,λo=>by simp[go_sem]⟩<;>rw[hc]
 .simp[tA]
 .have e:(tA kind B kv mn mx sg)[1+i]?=(bL B)[i]?:=by
   simp only[tA,getElem?_toArray];rw[append_assoc,getElem?_append_right χ,Zo (by simp[hl];omega)]
   simp
  rw[e,mg B i hi]
 all_goals
  simp only[tA,getElem?_toArray];rw[getElem?_append_right (by simp[hl])];simp[hl]
def Tr.bit (h:Tr w g kind B kv mn mx sg) (j:Nat) (hj:j<256) (v:Bool):Tr (w.setCell ⟨g,1+j,none⟩ (.bool v)) g kind (λi=>if i=j then v else B i) kv mn mx sg:=by
 obtain⟨c0,cB,ck,cm,cx,cs,fz⟩:=h;have ne:∀ o,o≠1+j->(w.setCell ⟨g,1+j,none⟩ (.bool v)).cell? ⟨g,o,none⟩=w.cell? ⟨g,o,none⟩:=λo ho=>iv (by simp<;>omega)
 refine⟨(ne _ ω).trans c0,λi hi=>?_,(ne _ ω).trans ck,(ne _ ω).trans cm,(ne _ ω).trans cx,(ne _ ω).trans cs,λo=>by simpa using fz o⟩
 by_cases e:i=j
 .subst e;rw[cP (cB i hi)];simp
 .rw[ne _ ω,cB i hi];simp[e]
def Tr.kids (h:Tr w g kind B kv mn mx sg) (v:Value):Tr (w.setCell ⟨g,257,none⟩ v) g kind B v mn mx sg:=by
 obtain⟨c0,cB,ck,cm,cx,cs,fz⟩:=h;have ne:∀ o,o≠257->(w.setCell ⟨g,257,none⟩ v).cell? ⟨g,o,none⟩=w.cell? ⟨g,o,none⟩:=λo ho=>iv (by simp<;>omega)
 exact⟨(ne _ ω).trans c0,λi hi=>(ne _ ω).trans (cB i hi),cP ck,(ne _ ω).trans cm,(ne _ ω).trans cx,(ne _ ω).trans cs,λo=>by simpa using fz o⟩
def Tr.least (h:Tr w g kind B kv mn mx sg) (v:Int):Tr (w.setCell ⟨g,258,none⟩ (.int .i64 v)) g kind B kv v mx sg:=by
 obtain⟨c0,cB,ck,cm,cx,cs,fz⟩:=h;have ne:∀ o,o≠258->(w.setCell ⟨g,258,none⟩ (.int .i64 v)).cell? ⟨g,o,none⟩=w.cell? ⟨g,o,none⟩:=λo ho=>iv (by simp<;>omega)
 exact⟨(ne _ ω).trans c0,λi hi=>(ne _ ω).trans (cB i hi),(ne _ ω).trans ck,cP cm,(ne _ ω).trans cx,(ne _ ω).trans cs,λo=>by simpa using fz o⟩
def Tr.most (h:Tr w g kind B kv mn mx sg) (v:Int):Tr (w.setCell ⟨g,259,none⟩ (.int .i64 v)) g kind B kv mn v sg:=by
 obtain⟨c0,cB,ck,cm,cx,cs,fz⟩:=h;have ne:∀ o,o≠259->(w.setCell ⟨g,259,none⟩ (.int .i64 v)).cell? ⟨g,o,none⟩=w.cell? ⟨g,o,none⟩:=λo ho=>iv (by simp<;>omega)
 exact⟨(ne _ ω).trans c0,λi hi=>(ne _ ω).trans (cB i hi),(ne _ ω).trans ck,(ne _ ω).trans cm,cP cx,(ne _ ω).trans cs,λo=>by simpa using fz o⟩
structure Bs (w:World) (g:Nat) (B:Nat->Bool):Prop where
 cB:∀ i,i<256->w.cell? ⟨g,i,none⟩=some (.bool (B i))
 fz:∀ o,w.frozen? ⟨g,o,none⟩=false
def Bs.of_heap (h:Bs w g B) (hb:w'.heap[g]?=w.heap[g]?):Bs w' g B:=by
 have hc:∀ o,w'.cell? ⟨g,o,none⟩=w.cell? ⟨g,o,none⟩:=λo=>by simp[cell?,hb]
 have hf:∀ o,w'.frozen? ⟨g,o,none⟩=w.frozen? ⟨g,o,none⟩:=λo=>by simp[frozen?,hb]
 exact⟨λi hi=>(hc _).trans (h.cB i hi),λo=>(hf o).trans (h.fz o)⟩
def Bs.lt (h:Bs w g B):g<w.heap.size:=by
 rcases Nat.lt_or_ge g w.heap.size with q|q
 .exact q
 .have:=h.cB 0 ω;simp[cell?,Array.getElem?_eq_none q] at this
variable (w B) in
def iW (t:TypeId):Bs (w.alloc (.cells (bA B) t)) w.heap.size B:=by
 refine⟨λi hi=>?_,λo=>by simp[go_sem]⟩;rw[cell?_alloc_at _ _ _ _ rfl,Kg B i hi]
def Bs.bit (h:Bs w g B) (j:Nat) (hj:j<256) (v:Bool):Bs (w.setCell ⟨g,j,none⟩ (.bool v)) g (λi=>if i=j then v else B i):=by
 obtain⟨cB,fz⟩:=h;refine⟨λi hi=>?_,λo=>by simpa using fz o⟩
 by_cases e:i=j
 .subst e;rw[cP (cB i hi)];simp
 .rw[iv (by simp<;>omega),cB i hi];simp[e]
def Bs.range (h:Bs w g B):w.rangeAt g 0 (bL B):=λj v hv=>by
 have hj:j<256:=by
  rcases Nat.lt_or_ge j 256 with q|q
  .exact q
  .rw[getElem?_eq_none (by rw[dc];exact q)] at hv;simp at hv
 rw[mg B j hj] at hv;injection hv with hv;rw[<-hv,Nat.zero_add];exact h.cB j hj
theorem Bs.there (h:Bs w g B):w.there g 0 256:=λj hj=>by
 rw[Nat.zero_add];exact⟨by rw[h.cB j hj];rfl,h.fz j⟩
def Tr.range (h:Tr w g kind B kv mn mx sg):w.rangeAt g 1 (bL B):=λj v hv=>by
 have hj:j<256:=by
  rcases Nat.lt_or_ge j 256 with q|q
  .exact q
  .rw[getElem?_eq_none (by rw[dc];exact q)] at hv;simp at hv
 rw[mg B j hj] at hv;injection hv with hv;rw[<-hv];exact h.cB j hj
theorem Tr.there (h:Tr w g kind B kv mn mx sg):w.there g 1 256:=λj hj=>
 ⟨by rw[h.cB j hj];rfl,h.fz _⟩
def jt (B:Nat->Bool):(bA B).all (·.oneCell')=true:=by
 rw[Array.all_eq_true_iff_forall_mem];intro v hv;simp[bA,bL] at hv;obtain⟨i,_,rfl⟩:=hv;rfl
def Bs.all (h:Bs w g B) (C:Nat->Bool):Bs (w.setCells g 0 (bL C)) g C:=by
 have hr:=rangeAt_setCells_same w g 0 (bL C) (by rw[dc];exact h.there);refine⟨λi hi=>?_,λo=>by rw[frozen?_setCells];exact h.fz o⟩;have:=hr i _ (mg C i hi)
 rwa [Nat.zero_add] at this
def Tr.all (h:Tr w g kind B kv mn mx sg) (C:Nat->Bool):Tr (w.setCells g 1 (bL C)) g kind C kv mn mx sg:=by
 have hr:=rangeAt_setCells_same w g 1 (bL C) (by rw[dc];exact h.there);have hl:=dc C;have ne:∀ o,(o<1\/257<=o)->(w.setCells g 1 (bL C)).cell? ⟨g,o,none⟩=w.cell? ⟨g,o,none⟩:=λo ho=>cell?_setCells_out g (bL C) 1 w ⟨g,o,none⟩ (λ_ _=>σ)
 obtain⟨c0,cB,ck,cm,cx,cs,fz⟩:=h;exact⟨(ne _ ω).trans c0,λi hi=>hr i _ (mg C i hi),(ne _ ω).trans ck,(ne _ ω).trans cm,(ne _ ω).trans cx,(ne _ ω).trans cs,λo=>by rw[frozen?_setCells];exact fz o⟩
def cg (w:World) (b:Nat):∀(vs:List Value) (o:Nat) (k:Nat),k≠b->(w.setCells b o vs).heap[k]?=w.heap[k]?
 |vs,o,k,hk=>by
  induction vs generalizing w o with
  |nil=>rfl
  |cons v r ih=>simp only[setCells];rw[ih];exact Zf _ _ _ _ hk
theorem size_setCells (w:World) (b:Nat) (vs:List Value) (o:Nat):(w.setCells b o vs).heap.size=w.heap.size:=by
 induction vs generalizing w o with
 |nil=>rfl
 |cons v r ih=>simp only[setCells];rw[ih];simp[World.setCell]
inductive RT where
 |bytes (S:Nat->Bool)
 |node (kind:Nat) (ks:List RT)
 |rep (t:RT) (sign:UInt8) (least most:Int)
def sE (c:dw):Int:=if c.sign=123 then c.least else if c.sign=43 then 1 else 0
def tm (c:dw):Int:=if c.sign=123 then c.most else if c.sign=63 then 1 else -1
def gD (t:RT):List dw->RT
 |[]=>t
 |c::cs=>gD (.rep t c.sign (sE c) (tm c)) cs
mutual
def rP:aO->RT
 |.mk g S cs=>gD (match g with|[]=>.bytes S|c::cs'=>dp (c::cs')) cs
def fO:List aO->List RT
 |[]=>[]
 |p::ps=>rP p::fO ps
def rC:List aO->RT
 |[p]=>rP p
 |[]=>.node 1 []
 |p::q::ps=>.node 1 (rP p::rP q::fO ps)
def fE:List (List aO)->List RT
 |[]=>[]
 |c::cs=>rC c::fE cs
def dp:List (List aO)->RT
 |[c]=>rC c
 |[]=>.node 2 []
 |c::d::cs=>.node 2 (rC c::rC d::fE cs)
end
def jR (k:Nat):List RT->RT
 |[t]=>t
 |ts=>.node k ts
theorem Lg (ps:List aO):rC ps=jR 1 (fO ps):=by
 match ps with
 |[]=>simp[rC,fO,jR]
 |[p]=>simp[rC,fO,jR]
 |p::q::ps=>simp[rC,fO,jR]
variable (cs) in
theorem Kh:dp cs=jR 2 (fE cs):=by
 match cs with
 |[]=>simp[dp,fE,jR]
 |[p]=>simp[dp,fE,jR]
 |p::q::ps=>simp[dp,fE,jR]
theorem mH (ps:List aO):(fO ps).length=ps.length:=by
 induction ps with
 |nil=>rfl
 |cons p ps ih=>simp[fO,ih]
variable (cs) in
theorem mI:(fE cs).length=cs.length:=by
 induction cs with
 |nil=>rfl
 |cons p ps ih=>simp[fE,ih]
theorem zw (a b:List aO):fO (a++b)=fO a++fO b:=by
 induction a with
 |nil=>simp[fO]
 |cons p ps ih=>simp[fO,ih]
theorem qm (a b:List (List aO)):fE (a++b)=fE a++fE b:=by
 induction a with
 |nil=>simp[fE]
 |cons p ps ih=>simp[fE,ih]
mutual
/-- The tree that lies in block g,within the blocks S. -/
def aV (w:World) (S:Nat->Prop):RT->Nat->Prop
 |.bytes B,g=>S g/\∃ kv mn mx sg,Tr w g 0 B kv mn mx sg
 |.node k ks,g=>S g/\∃ B kv mn mx sg,Tr w g k B kv mn mx sg/\∃ vs,db w S 100 1 kv ks.length vs/\bQ w S ks vs
 |.rep t c lo hi,g=>S g/\∃ B kv,Tr w g 3 B kv lo hi c.toNat/\∃ g',db w S 100 1 kv 1 [.pointer (some ⟨g',0,none⟩)]/\aV w S t g'
def bQ (w:World) (S:Nat->Prop):List RT->List Value->Prop
 |[],vs=>vs=[]
 |t::ts,vs=>∃ g vs',vs=.pointer (some ⟨g,0,none⟩)::vs'/\aV w S t g/\bQ w S ts vs'
end
section
variable {w w':World}{S S':Nat->Prop}
mutual
theorem aV.of_heap (hS:∀ g,S g->g<w.heap.size->S' g/\w'.heap[g]?=w.heap[g]?):∀(t:RT) (g:Nat),aV w S t g->aV w' S' t g
 |.bytes B,g,h=>by
  simp only[aV] at h ⊢;obtain⟨h1,kv,mn,mx,sg,h2⟩:=h;exact⟨(hS g h1 h2.lt).1,kv,mn,mx,sg,h2.of_heap (hS g h1 h2.lt).2⟩
 |.node k ks,g,h=>by
  simp only[aV] at h ⊢;obtain⟨h1,B,kv,mn,mx,sg,h2,vs,h3,h4⟩:=h;exact⟨(hS g h1 h2.lt).1,B,kv,mn,mx,sg,h2.of_heap (hS g h1 h2.lt).2,vs,h3.of_heap hS,bQ.of_heap hS ks vs h4⟩
 |.rep t c lo hi,g,h=>by
  simp only[aV] at h ⊢;obtain⟨h1,B,kv,h2,g',h3,h4⟩:=h;exact⟨(hS g h1 h2.lt).1,B,kv,h2.of_heap (hS g h1 h2.lt).2,g',h3.of_heap hS,aV.of_heap hS t g' h4⟩
theorem bQ.of_heap (hS:∀ g,S g->g<w.heap.size->S' g/\w'.heap[g]?=w.heap[g]?):∀(ts:List RT) (vs:List Value),bQ w S ts vs->bQ w' S' ts vs
 |[],vs,h=>by simpa only [bQ] using h
 |t::ts,vs,h=>by
  simp only[bQ] at h ⊢;obtain⟨g,b,he,h1,h2⟩:=h;exact⟨g,b,he,aV.of_heap hS t g h1,bQ.of_heap hS ts b h2⟩
end
end
theorem bQ.snoc {w:World}{S:Nat->Prop}{t:RT}{g:Nat} (hp:aV w S t g):∀ {ts:List RT}{vs:List Value},bQ w S ts vs->bQ w S (ts++[t]) (vs++[.pointer (some ⟨g,0,none⟩)])
 |[],vs,h=>by
  simp only[bQ] at h;subst h;simp only[nil_append,bQ];exact⟨g,[],rfl,hp,rfl⟩
 |q::ts,vs,h=>by
  simp only[bQ] at h;obtain⟨g',b,rfl,h1,h2⟩:=h;simp only[cons_append,bQ];exact⟨g',b++[.pointer (some ⟨g,0,none⟩)],rfl,h1,bQ.snoc hp h2⟩
end Go.Proofs.YtbjabpodkaokjaaGreatDoor.Sx
