import Derived.Lib.BufferRead
import Derived.Test.YtbjabpodkaokjaaGreatDoorCC08
import Derived.Deep.CutRange
set_option linter.all false
set_option maxHeartbeats 4000000
set_option maxRecDepth 100000
open List Nat Go.World Go.Proofs.Tryz
namespace Go.Proofs.YtbjabpodkaokjaaGreatDoor
open Go.RowKit
variable {w:World}{lo b:Nat}{v:Value}{g:Nat}{t:Tb}{w':World}{st:Int}{cls:List UInt8}{acc:List Bool}{next:List (List Int)}
def dH {x0 x1 x2 x3 x4 x5:Value}{T:TypeId} (h:w.heap[b]?=some (.cells #[x0,x1,x2,x3,x4,x5] T)):w.cell? ⟨b,0,none⟩=some x0/\w.cell? ⟨b,1,none⟩=some x1/\w.cell? ⟨b,2,none⟩=some x2/\w.cell? ⟨b,3,none⟩=some x3/\w.cell? ⟨b,4,none⟩=some x4/\w.cell? ⟨b,5,none⟩=some x5:=by
 refine⟨?_,?_,?_,?_,?_,?_⟩<;>simp[cell?,h]
def pC:prog.underlying 9=some .string:=κ
def mV:prog.underlying 5=some (.int .u8):=κ
abbrev K1:Array Value:=#[.bool false,.bool false,.int .i64 0,.string ⟨#[]⟩,.slice none 0 0,.slice none 0 0]
def JL {cs:Array Value}{T:TypeId} (h:w.heap[b]?=some (.cells cs T)) (o:Nat):w.frozen? ⟨b,o,none⟩=false:=by simp[frozen?,h]
def IF {f b:Bool}{s:Int}{l:List UInt8}{S:Nat->Bool} (h:Au w g f b s (λj=>((l[j]?.getD 0).toNat:Int)) S v) (hl:l.length=256):(convert 73 9 (.slice (some ⟨g,3,none⟩) 256 256)).run prog w=.ok (.string (ba l)) w:=by
 have:=run_convert_bytes_back (P:=prog) w 73 9 5 ⟨g,3,none⟩ 256 l underlying73 mV pC (by
  intro j hj;have:=h.cl j ω;have e:(⟨g,3,none⟩:Addr).add j=⟨g,3+j,none⟩:=by unfold Addr.add;split<;>simp_all
  rw[e]
  simpa [hj] using this)
 rw[hl] at this;exact this
def rowAt (gs:List Nat) (next:List (List Int)) (j:Nat):Value:=
 match gs[j]? with
 |some q=>.slice (some ⟨q,0,none⟩) (next[j]?.getD []).length (next[j]?.getD []).length
 |none=>.slice none 0 0
structure TI (w wr:World) (f b:Bool) (st:Int) (cls:List UInt8) (n tT tA tB lo:Nat) (acc:List Bool) (next:List (List Int)) (gs:List Nat) (ka k:Nat):Prop where
 bl:Below w.heap.size w wr
 rb:wr.heap[w.heap.size]?=some (.cells K1 33)
 b0:wr.cell? ⟨tT,0,none⟩=some (.bool f)
 b1:wr.cell? ⟨tT,1,none⟩=some (.bool b)
 b2:wr.cell? ⟨tT,2,none⟩=some (.int .i64 st)
 b3:wr.cell? ⟨tT,3,none⟩=some (.string (ba cls))
 b4:wr.cell? ⟨tT,4,none⟩=some (.slice (some ⟨tA,0,none⟩) n n)
 b5:wr.cell? ⟨tT,5,none⟩=some (.slice (some ⟨tB,0,none⟩) n n)
 na:Nw wr tA n (λj=>eB (decide (j<ka)&&(acc[j]?.getD false)))
 nb:Nw wr tB n (rowAt gs next)
 gl:gs.length=k
 rows:∀ j (h:j<gs.length),Nw wr gs[j] (next[j]?.getD []).length (λi=>eI ((next[j]?.getD [])[i]?.getD 0))/\lo<=gs[j]/\gs[j]<wr.heap.size
 mono:gs.Pairwise (· < ·)
 o:w.heap.size<tT/\w.heap.size<tA/\w.heap.size<tB/\tT<lo/\tA<lo/\tB<lo/\tT≠tA/\tT≠tB/\tA≠tB/\lo<=wr.heap.size
section
variable {w wr w2:World}{f b:Bool}{st:Int}{cls:List UInt8}{n tT tA tB lo:Nat}{acc:List Bool}{next:List (List Int)}{gs:List Nat}{ka k:Nat}
def TI.below (h:TI w wr f b st cls n tT tA tB lo acc next gs ka k) (hb:Below wr.heap.size wr w2):TI w w2 f b st cls n tT tA tB lo acc next gs ka k:=by
 obtain⟨o1,o2,o3,o4,o5,o6,o7,o8,o9,a⟩:=h.o;have hs:=hb.size;have hT:=hb.block tT ω;have hc:=λo=>cell_of_block hT o
 exact⟨h.bl.trans (hb.mono h.bl.size),(hb.block _ ω).trans h.rb,(hc 0).trans h.b0,(hc 1).trans h.b1,(hc 2).trans h.b2,(hc 3).trans h.b3,(hc 4).trans h.b4,(hc 5).trans h.b5,h.na.of_block (hb.block tA ω),h.nb.of_block (hb.block tB ω),h.gl,λj hj=>⟨(h.rows j hj).1.of_block (hb.block _ (h.rows j hj).2.2),(h.rows j hj).2.1,by have:=(h.rows j hj).2.2;omega⟩,h.mono,⟨o1,o2,o3,o4,o5,o6,o7,o8,o9,ω⟩⟩
def TI.accs (h:TI w wr f b st cls n tT tA tB lo acc next gs ka k) (hk:ka<n) {s:Bool} (hs:s=(acc[ka]?.getD false)) :
  TI w (wr.setCell ⟨tA,ka,none⟩ (eB s)) f b st cls n tT tA tB lo acc next gs (ka+1) k:=by
 obtain⟨o1,o2,o3,o4,o5,o6,o7,o8,o9,a⟩:=h.o;have e:∀ q,q≠tA->(wr.setCell ⟨tA,ka,none⟩ (eB s)).heap[q]?=wr.heap[q]?:=λq hq=>Zf _ _ _ _ (by simpa using hq)
 have hc:=λo=>cell_of_block (e tT o7) o
 have hz:(wr.setCell ⟨tA,ka,none⟩ (eB s)).heap.size=wr.heap.size:=by simp[World.setCell]
 refine⟨h.bl.setCell (p:=⟨tA,ka,none⟩) (by simp only;omega) _,(e _ ω).trans h.rb,(hc 0).trans h.b0,(hc 1).trans h.b1,(hc 2).trans h.b2,(hc 3).trans h.b3,(hc 4).trans h.b4,(hc 5).trans h.b5,(h.na.set ka hk _).congr (λj hj=>?_),h.nb.of_block (e tB ω),h.gl,λj hj=>⟨(h.rows j hj).1.of_block (e _ (η ((h.rows j hj).2.1))),(h.rows j hj).2.1,by rw[hz];exact(h.rows j hj).2.2⟩,h.mono,⟨o1,o2,o3,o4,o5,o6,o7,o8,o9,ω⟩⟩
 by_cases q:j=ka
 .subst q;simp[hs]
 .have e2:(j<ka+1)=(j<ka):=by rw[eq_iff_iff];omega
  simp only[q,if_false,e2]
def TI.row (h:TI w wr f b st cls n tT tA tB lo acc next gs ka k) (hk:k<n) {q:Nat}{r:List Int} (hr:next[k]?=some r) (hb:Below wr.heap.size wr w2) (hq:wr.heap.size<=q) (hq2:q<w2.heap.size) (hn:Nw w2 q r.length λi=>eI (r[i]?.getD 0)) :
  TI w (w2.setCell ⟨tB,k,none⟩ (.slice (some ⟨q,0,none⟩) r.length r.length)) f b st cls n tT tA tB lo acc next (gs++[q]) ka (k+1):=by
 have h2:=h.below hb;have c:=h.rows;obtain⟨o1,o2,o3,o4,o5,o6,o7,o8,o9,l⟩:=h2.o;have m:=h.o.2.2.2.2.2.2.2.2.2;have e:∀ p,p≠tB->(w2.setCell ⟨tB,k,none⟩ (.slice (some ⟨q,0,none⟩) r.length r.length)).heap[p]?=w2.heap[p]?:=λp hp=>Zf _ _ _ _ (by simpa using hp)
 have hc:=λo=>cell_of_block (e tT o8) o
 have hz:(w2.setCell ⟨tB,k,none⟩ (.slice (some ⟨q,0,none⟩) r.length r.length)).heap.size=w2.heap.size:=by simp[World.setCell]
 have d:=h.gl;refine⟨h2.bl.setCell (p:=⟨tB,k,none⟩) (by simp only;omega) _,(e _ ω).trans h2.rb,(hc 0).trans h2.b0,(hc 1).trans h2.b1,(hc 2).trans h2.b2,(hc 3).trans h2.b3,(hc 4).trans h2.b4,(hc 5).trans h2.b5,h2.na.of_block (e tA o9),(h2.nb.set k hk _).congr (λj hj=>?_),by simp[d],λj hj=>?_,?_,⟨o1,o2,o3,o4,o5,o6,o7,o8,o9,ω⟩⟩
 .unfold rowAt
  by_cases p:j=k
  .subst p;rw[Zi rfl,getElem?_append_right ω,d];simp[hr]
  .rw[Zh p]
   by_cases a:j<k
   .rw[Zo ω]
   .rw[show gs[j]?=none from getElem?_eq_none ω,show(gs++[q])[j]?=none from getElem?_eq_none σ]
 .by_cases hj2:j<gs.length
  .rw[Zp hj2];exact⟨(h2.rows j hj2).1.of_block (e _ (η ((h2.rows j hj2).2.1))),(h2.rows j hj2).2.1,by rw[hz];exact(h2.rows j hj2).2.2⟩
  .have a:j=k:=by simp at hj;omega
   subst a;have e1:(gs++[q])[j]=q:=by rw[getElem_append_right ω];simp
   rw[e1,hr];exact⟨(hn.of_block (e _ ω)).congr (λ_ _=>rfl),ω,by rw[hz];exact hq2⟩
 .rw[pairwise_append];refine⟨h.mono,χ,λx hx y hy=>?_⟩;simp only[mem_singleton] at hy;subst hy;obtain⟨i,hi,rfl⟩:=mem_iff_getElem.1 hx;have:=(c i hi).2.2;omega
end
open Go.RowKit
structure i_ (lo:Nat) (w:World) (t:Tb) (tA tB:Nat) (gs:List Nat):Prop where
 na:Nw w tA t.acc.length (λj=>eB (t.acc[j]?.getD false))
 nb:Nw w tB t.next.length (rowAt gs t.next)
 gl:gs.length=t.next.length
 rows:∀ j (h:j<gs.length),Nw w gs[j] (t.next[j]?.getD []).length (λi=>eI ((t.next[j]?.getD [])[i]?.getD 0))/\lo<=gs[j]/\gs[j]<w.heap.size
 mono:gs.Pairwise (· < ·)
 o:lo<=tA/\lo<=tB/\tA≠tB/\tA<w.heap.size/\tB<w.heap.size/\∀ q∈gs,tA<q/\tB<q
def i_.set {tA tB:Nat}{gs:List Nat} (h:i_ lo w t tA tB gs)  (hb:b<lo) (o:Nat) (v:Value):i_ lo (w.setCell ⟨b,o,none⟩ v) t tA tB gs:=by
 have e:∀ q,lo<=q->(w.setCell ⟨b,o,none⟩ v).heap[q]?=w.heap[q]?:=λq hq=>Zf _ _ _ _ (by simp only;omega)
 have hz:(w.setCell ⟨b,o,none⟩ v).heap.size=w.heap.size:=by simp[World.setCell]
 obtain⟨o1,o2,o3,o4,o5,o6⟩:=h.o;exact⟨h.na.of_block (e _ o1),h.nb.of_block (e _ o2),h.gl,λj hj=>⟨(h.rows j hj).1.of_block (e _ (h.rows j hj).2.1),(h.rows j hj).2.1,by rw[hz];exact(h.rows j hj).2.2⟩,h.mono,⟨o1,o2,o3,ω,ω,o6⟩⟩
def i_.below {tA tB:Nat}{gs:List Nat} (h:i_ lo w t tA tB gs) (hb:Below w.heap.size w w'):i_ lo w' t tA tB gs:=by
 have hz:=hb.size;obtain⟨o1,o2,o3,o4,o5,o6⟩:=h.o;exact⟨h.na.of_block (hb.block _ o4),h.nb.of_block (hb.block _ o5),h.gl,λj hj=>⟨(h.rows j hj).1.of_block (hb.block _ (h.rows j hj).2.2),(h.rows j hj).2.1,by have:=(h.rows j hj).2.2;omega⟩,h.mono,⟨o1,o2,o3,ω,ω,o6⟩⟩
def i_.weak {lo lo':Nat}{tA tB:Nat}{gs:List Nat} (h:i_ lo w t tA tB gs) (hl:lo'<=lo):i_ lo' w t tA tB gs:=by
 obtain⟨o1,o2,o3,o4,o5,o6⟩:=h.o;exact⟨h.na,h.nb,h.gl,λj hj=>⟨(h.rows j hj).1,by have:=(h.rows j hj).2.1;omega,(h.rows j hj).2.2⟩,h.mono,⟨ω,ω,o3,o4,o5,o6⟩⟩
def i_.tab {tA tB:Nat}{gs:List Nat} (h:i_ lo w t tA tB gs):cJ w t (.slice (some ⟨tA,0,none⟩) t.acc.length t.acc.length) (.slice (some ⟨tB,0,none⟩) t.next.length t.next.length):=by
 refine⟨h.na.row (λj hj=>by simp[hj]),gs.zipIdx.map (λp=>rowAt gs t.next p.2),by simp[h.gl],?_,λj h1 h2=>?_⟩
 .have e:(gs.zipIdx.map (λp=>rowAt gs t.next p.2)).length=t.next.length:=by simp[h.gl]
  have:=Nw.row (α:=Value) (l:=gs.zipIdx.map (λp=>rowAt gs t.next p.2)) (enc:=id) (c:=t.next.length) (w:=w) (g:=tB) (f:=rowAt gs t.next) (by rw[e];exact h.nb) (λj hj=>χ);rw[e] at this;exact this
 .have hj:j<gs.length:=by simpa using h1
  have e:(gs.zipIdx.map (λp=>rowAt gs t.next p.2))[j]=.slice (some ⟨gs[j],0,none⟩) t.next[j].length t.next[j].length:=by simp[rowAt,hj,h2]
  rw[e];have hr:=(h.rows j hj).1;rw[Zj h2] at hr;exact hr.row (λi hi=>by have a:i<t.next[j].length:=hi;simp[a])
def TI.done {w wr:World}{f b:Bool}{n tT tA tB lo:Nat}{gs:List Nat} (h:TI w wr f b st cls n tT tA tB lo acc next gs n n) (h1:n=acc.length) (h2:n=next.length):i_ (w.heap.size+1) wr ⟨f,b,st,cls,acc,next⟩ tA tB gs:=by
 obtain⟨o1,o2,o3,o4,o5,o6,o7,o8,o9,a⟩:=h.o;refine⟨?_,?_,?_,λj hj=>⟨(h.rows j hj).1,by have:=(h.rows j hj).2.1;omega,(h.rows j hj).2.2⟩,h.mono,⟨ω,ω,o9,ω,ω,λq hq=>?_⟩⟩
 .show Nw _ _ acc.length _;rw[<-h1];exact h.na.congr (λj hj=>by simp[hj])
 .show Nw _ _ next.length _;rw[<-h2];exact h.nb
 .show gs.length=next.length;rw[<-h2];exact h.gl
 .obtain⟨i,hi,rfl⟩:=mem_iff_getElem.1 hq;have:=(h.rows i hi).2.1;omega
def TI.start {w1 w' w:World}{f b:Bool}{n tT tA tB:Nat} (hw1:w1=w.alloc (.cells K1 33)) (hb:Below w1.heap.size w1 w')
  (hT:w'.heap[tT]?=some (.cells #[.bool f,.bool b,.int .i64 st,.string (ba cls),.slice (some ⟨tA,0,none⟩) n n,.slice (some ⟨tB,0,none⟩) n n] 33)) (hA:w'.heap[tA]?=some (.cells (jp n (.bool false)) 4)) (hB:w'.heap[tB]?=some (.cells (jp n (.slice none 0 0)) 40))
  (o:w1.heap.size<=tT/\w1.heap.size<=tA/\w1.heap.size<=tB/\tT≠tA/\tT≠tB/\tA≠tB):TI w w' f b st cls n tT tA tB w'.heap.size acc next [] 0 0:=by
 obtain⟨p0,p1,p2,p3,p4,p5⟩:=dH hT;have hs:w1.heap.size=w.heap.size+1:=by rw[hw1];simp
 have key:∀ {q:Nat}{z:Value}{e:TypeId},w'.heap[q]?=some (.cells (jp n z) e)->z.cells=#[z]->Nw w' q n (λ_=>z):=λh hz=>⟨λj hj=>by simp only[cell?,h];exact mJ hz n j hj,λo=>by simp[frozen?,h]⟩
 have l1:=(ZC hT)
 have l2:=(ZC hA)
 have l3:=(ZC hB)
 have a:Below w.heap.size w w1:=by rw[hw1];exact ZA
 refine⟨a.trans (hb.mono ω),?_,p0,p1,p2,p3,p4,p5,(key hA rfl).congr (λj _=>χ),(key hB rfl).congr (λj _=>by simp[rowAt]),rfl,λj h=>by simp at h,Pairwise.nil,⟨ω,ω,ω,l1,l2,l3,o.2.2.2.1,o.2.2.2.2.1,o.2.2.2.2.2,zq⟩⟩;rw[hb.block _ ω,hw1];exact Za _ _
def IG (w:World) (X Y Z:Obj):(((w.alloc X).alloc Y).alloc Z).drew.heap[w.heap.size]?=some X:=
 (Ze ((w.alloc X).alloc Y) Z _ σ).trans ((Ze (w.alloc X) Y _ χ).trans (Za w X))
def KB (w:World) (X Y Z:Obj):(((w.alloc X).alloc Y).alloc Z).drew.heap[w.heap.size+1]?=some Y:=by
 have:=(Ze ((w.alloc X).alloc Y) Z (w.alloc X).heap.size χ).trans (Za (w.alloc X) Y);rw[size_alloc] at this;exact this
def JM (w:World) (X Y Z:Obj):(((w.alloc X).alloc Y).alloc Z).drew.heap[w.heap.size+1+1]?=some Z:=by
 have:=Za ((w.alloc X).alloc Y) Z;rw[size_alloc,size_alloc] at this;exact this
def MJ (w:World) (X Y Z:Obj):Below w.heap.size w (((w.alloc X).alloc Y).alloc Z).drew:=((ZA.alloc χ _).alloc σ _).drew
def Ξ {P U:Prop} (h:U) (k:U->P:=by intro h;(repeat first|(with_reducible refine Below.setCell ?_ φ _)|(with_reducible refine Below.alloc ?_ θ _)|(with_reducible refine Below.drew ?_));exact h):P:=k h
variable (w g t) in
def Dx (c:Nat) (h:mL w g t) (hok:jf t c) :
  Calls prog 50 #[.pointer (some ⟨g,0,none⟩)] w λe w'=>∃ tA tB gs,e=.returned (tv t (.slice (some ⟨tA,0,none⟩) t.acc.length t.acc.length) (.slice (some ⟨tB,0,none⟩) t.next.length t.next.length))/\i_ w.heap.size w' t tA tB gs/\Below w.heap.size w w':=by
 obtain⟨S,v,y,hS,X⟩:=h.au;obtain⟨us,Z,hu,hr⟩:=X;have a8:=hok.c256.2;have d9:=hok.c256.1;have a1:=hok.a1;have a2:=hok.a2;have hn:=hok.n;have A:=hok.r;obtain⟨bn,on,cn,hv,D⟩:=hu.nonnil ω;subst hv;rw[Z,hn] at y;obtain⟨n,E⟩:=zx t.acc.length;have HN:Hid (n=t.acc.length/\n=t.next.length/\n=us.length):=⟨E,by rw[hn,E],by rw[Z,hn,E]⟩
 rw[<-E] at y a1 a2;obtain⟨w1,T⟩:=zx (w.alloc (.cells K1 33));have a7:Below w.heap.size w w1:=by rw[T];exact ZA
 have d:=y.of_block (a7.block g y.lt);have d0:=y.lt;have l:=d.lt;have V:Hid (∀ w',w'.heap[g]?=w1.heap[g]?->(convert 73 9 (.slice (some ⟨g,3,none⟩) 256 256)).run prog w'=.ok (.string (ba t.cls)) w'):=λw' e=>IF (d.of_block e) a8
 have W:=V _ rfl;have k0:=d.c0;have k1:=d.c1;have k2:=d.c2;have k5:=d.cn;have n0:=new_ne w1 ⟨g,0,none⟩ k0;have f6:=hok.s1;have f5:=hok.s2;have d8:IntKind.i64.wrap t.start=t.start:=by rw[IntKind.wrap_i64];omega
 obtain⟨ib,c0,Q,I,L⟩:=info_parts Tryz.infoB;obtain⟨il,d1,M,R,K⟩:=info_parts Tryz.infoLI;have b9:=λw=>dv underlying30 c0 Q I L n ω Zs w
 have c7:=λw=>dv underlying31 d1 M R K n ω Zs w
 have Y:=zh T;have b8:=zh y;have HS:=zh hS;have e7:=zh D;have d6:=zh hr;have f1:=zh A;clear T a7 y E d hS D hr A hn Z hu;obtain⟨f,b,st,cls,acc,next⟩:=t
 simp only at *
 have J:∀(o:Obj),(w1.alloc o).drew.heap[g]?=w1.heap[g]?:=λo=>Ze w1 o g l
 have P:∀(o p:Obj),((w1.alloc o).alloc p).drew.heap[g]?=w1.heap[g]?:=λo p=>(Ze (w1.alloc o) p g σ).trans (Ze w1 o g l)
 have O:∀(o p q:Obj),(((w1.alloc o).alloc p).alloc q).drew.heap[g]?=w1.heap[g]?:=λo p q=>(Ze ((w1.alloc o).alloc p) q g σ).trans ((Ze (w1.alloc o) p g σ).trans (Ze w1 o g l))
 have a9:=zh J;have c1:=zh P;have c4:=zh O;clear J P O;have m:Hid (∀ w',w'.heap[g]?=w1.heap[g]?->(w'.cell? ⟨g,0,none⟩=some (.bool f)/\w'.cell? ⟨g,1,none⟩=some (.bool b)/\w'.cell? ⟨g,2,none⟩=some (.int .u8 st)/\w'.cell? ⟨g,263,none⟩=some (.slice (some ⟨bn,on,none⟩) n cn)/\(convert 73 9 (.slice (some ⟨g,3,none⟩) 256 256)).run prog w'=.ok (.string (ba cls)) w')):=λw' e=>⟨(cell_of_block e 0).trans k0,(cell_of_block e 1).trans k1,(cell_of_block e 2).trans k2,(cell_of_block e 263).trans k5,V _ e⟩
 go_enter func50,ntmps50
 go_wp2
 rw[<-Y.out]
 go_cut [3] from 6 to 36 (λs wc=>∃ tT tA tB,s=.pointer (some ⟨tT,0,none⟩)/\TI w wc f b st cls n tT tA tB wc.heap.size acc next [] 0 0)
 case first=>
  go_region_held3 (λw'=>w'.cell? ⟨g,0,none⟩=some (.bool f)/\w'.cell? ⟨g,1,none⟩=some (.bool b)/\w'.cell? ⟨g,2,none⟩=some (.int .u8 st)/\w'.cell? ⟨g,263,none⟩=some (.slice (some ⟨bn,on,none⟩) n cn)/\(convert 73 9 (.slice (some ⟨g,3,none⟩) 256 256)).run prog w'=.ok (.string (ba cls)) w') (first|exact m _ rfl|exact m _ (a9 _)|exact m _ (c1 _ _)|exact m _ (c4 _ _ _)) (fail)
  all_goals
   go_wp2
   go_meet
   refine⟨_,_,_,rfl,TI.start Y (MJ _ _ _ _) (by first|exact IG _ _ _ _|exact KB _ _ _ _|exact JM _ _ _ _) (by first|exact IG _ _ _ _|exact KB _ _ _ _|exact JM _ _ _ _) (by first|exact IG _ _ _ _|exact KB _ _ _ _|exact JM _ _ _ _) (by refine⟨?_,?_,?_,?_,?_,?_⟩<;>omega)⟩
 case rest=>
  obtain⟨tT,tA,tB,rfl,a⟩:=hcut;obtain⟨lo,b7⟩:=zx wc.heap.size;rw[<-b7] at a;clear b7 W k0 k1 k2 k5 n0 b9 c7 m a9 c1 c4 V Y d8 Q I L M R K c0 d1 l;have c5:=cell_below a.bl b8.cn;have H:=zh a;clear a;go_wp2
  go_loopw [42] (λi wr=>∃ k:Nat,∃ gs,i=.int .i64 k/\k<=n/\TI w wr f b st cls n tT tA tB lo acc next gs k k) (λi _=>n-(intOf i).toNat)
  case atStart=>exact⟨0,[],rfl,Zk _,H⟩
  case round=>
   obtain⟨k,gs,rfl,hk,a⟩:=hrel;clear H c5;have H:=zh a
   by_cases hlt:k<n
   .have f4:(k:Int)<n:=ω;have f8:(0:Int)<=(k:Int):=ω;have c8:k<us.length:=by have:=HN.2.2;omega
    have U:k<next.length:=by have:=HN.2.1;omega
    have d7:=cell_below a.bl (e7 k c8);have G:=d6 k c8 U;have A:=f1 next[k] (Zg U);obtain⟨u,hu⟩:=zx (us[k]);obtain⟨r,a5⟩:=zx (next[k]);rw[<-hu] at d7 G;rw[<-a5] at G A;have f0:Hid (next[k]?=some r):=by show _=_;rw[a5];exact Zj U
    have e9:=zh G;have b6:Hid (r.length<=65536/\∀ z∈r,0<=z/\z<256):=⟨by have:=A.1;omega,λz hz=>by have:=A.2 z hz;have:=HN.1;omega⟩
    obtain⟨x0,x1,x2,x3,j⟩:=(b8.of_block (a.bl.block g d0)).st;have q0:=j.c0;have q1:=j.c1;have q2:=j.c2;have q3:=j.c3;have b4:=a.b4;have d2:=HS k ω;have c3:=zh d2;have f3:=Bn (k:Int) ω;have N:=Sx.uJ (.inr rfl) wr.drew x0 x1 x2 x3 k S ω j.wd;obtain⟨sk,a6⟩:=zx (S k);rw[<-a6] at N c3;obtain⟨o1,o2,o3,o4,o5,o6,o7,o8,o9,e4⟩:=a.o;have m1:tA≠tT:=λe=>o7 e.symm
    have m2:tB≠tT:=λe=>o8 e.symm
    have m3:tA≠g:=ω;have m4:g≠tA:=ω;clear hu a5 G A j d2 a6 a;go_wp2
    go_region_held3 (λw'=>w'.cell? ⟨tT,4,none⟩=some (.slice (some ⟨tA,0,none⟩) n n)/\w'.cell? ⟨g,259,none⟩=some (.int .u64 x0)/\w'.cell? ⟨g,260,none⟩=some (.int .u64 x1)/\w'.cell? ⟨g,261,none⟩=some (.int .u64 x2)/\w'.cell? ⟨g,262,none⟩=some (.int .u64 x3)) (go_keep) ((go_at_call 95;refine N.mono ?_;rintro e w2 ⟨rfl,B⟩;have C:=zh ((H.below (ZB.drew)).below B);have d4:=C.b4;have e0:=cell_below B q0;have e1:=cell_below B q1;have e2:=cell_below B q2;have e3:=cell_below B q3;have da:=C.na.c k hlt;have df:=C.na.fz k;clear B))
    rename_i x;clear x;have F:=zh (C.accs hlt c3);generalize (w2.setCell ⟨tA,k,none⟩ (.bool sk))=w3 at F ⊢;clear C d4 e0 e1 e2 e3 da df q0 q1 q2 q3 b4;have b5:=F.b5;have W:=Db w3.drew u r (e9.below (F.bl.drew)) b6.1 b6.2;go_wp2
    go_region_held3 (λw'=>w'.cell? ⟨tT,5,none⟩=some (.slice (some ⟨tB,0,none⟩) n n)) (go_keep) ((go_at_call 96;refine W.mono ?_;rintro e w4 ⟨g4,rfl,c9,c2,c6,a4⟩;have a3:=zh ((F.below (ZB.drew)).below a4);have e6:=zh ((F.below (ZB.drew)).row hlt f0 a4 c9 c2 c6);have d5:=a3.b5;have da:=a3.nb.c k hlt;have df:=a3.nb.fz k;clear a4 c6 c2 c9))
    rename_i x;clear x;go_wp2
    go_roundw
    case rel=>exact⟨k+1,gs++[g4],π,ω,e6⟩
    case measure=>simp[intOf]<;>omega
   .have f7:¬(k:Int)<n:=ω;have d3:k=n:=ω;obtain⟨o1,o2,o3,o4,o5,o6,o7,o8,o9,e4⟩:=a.o;have b0:=a.b0;have b1:=a.b1;have b2:=a.b2;have b3:=a.b3;have b4:=a.b4;have b5:=a.b5;obtain⟨r0,r1,r2,r3,r4,r5⟩:=dH a.rb;have rf:=JL a.rb;have m1:tT≠w.heap.size:=ω;have m2:w.heap.size≠tT:=ω;have f2:Hid (i_ (w.heap.size+1) wr ⟨f,b,st,cls,acc,next⟩ tA tB gs):=by
     rw[d3] at a;exact a.done HN.1 HN.2.1
    have e5:=zh a.bl;clear a;go_wp2
    refine Zb (v:=tv ⟨f,b,st,cls,acc,next⟩ (.slice (some ⟨tA,0,none⟩) n n) (.slice (some ⟨tB,0,none⟩) n n)) (by simp[results,results50,go_sem,r0,r1,r2,r3,r4,r5]) rfl ?_;refine⟨tA,tB,?_,⟨gs,?_⟩,?_⟩
    .rw[<-HN.out.1,<-HN.out.2.1]
    .exact((((((f2.set ω _ _).set ω _ _).set ω _ _).set ω _ _).set ω _ _).set ω _ _).weak ω
    .exact(Ξ e5)
def Tryz.infoBo:(prog.info? 4).map (λi=>(i.zero,i.size,i.bytes))=some (some (.bool false),1,1):=κ
def jl {α:Type}{enc:α->Value}{e:TypeId}{xs:List α} (h:w.ownsRow b e 1 v xs.length (xs.map enc)):aS enc w v xs:=by
 rcases h.2 with⟨rfl,hn⟩|⟨k,a,c,rfl,_⟩
 .exact .inl ⟨length_eq_zero_iff.1 hn,_,_,rfl⟩
 .refine .inr ⟨k,0,a,rfl,λj hj=>?_⟩;rw[Nat.zero_add,h.cellAt j ω];simp[hj]
end Go.Proofs.YtbjabpodkaokjaaGreatDoor
