import Derived.Test.YtbjabpodkaokjaaGreatDoorCC14
import Derived.Test.YtbjabpodkaokjaaGreatDoorCC15
set_option linter.all false
set_option maxHeartbeats 4000000
set_option maxRecDepth 100000
open List Nat Go.World Go.Proofs.Tryz
namespace Go.Proofs.YtbjabpodkaokjaaGreatDoor
open Go.RowKit
open Sx (aO dw)
variable {w:World}{vb vf:Value}{e:Ex}{W:World}{n:Nat}{vb' vf':Value}{k:Nat}{S:Nat->Bool}{H:Nat}{a:Pc}{l m:Int}{W' w':World}{z:Int}{v:Value}{b cap i B k':Nat}{vb2 vf2:Value}{e0:Ex}{n':Nat}{x0 x1 x2:Value}{e2:Ex}
def od {S:Nat->Prop}{ps:List aO} (h:Sx.mE w S ps v):∃ a c,v=.slice a ps.length c/\ps.length<=maxLen:=by
 obtain⟨f,⟨_,hr⟩,_⟩:=h;rcases hr with⟨rfl,hn⟩|⟨g,cap,d,rfl,_,_,h1,h2,_⟩
 .exact⟨none,0,by rw[hn],ω⟩
 .exact⟨_,_,rfl,ω⟩
def iA {S:Nat->Prop}{cs:List (List aO)} (h:Sx.dU w S cs v):∃ a c,v=.slice a cs.length c/\cs.length<=maxLen:=by
 obtain⟨vs,⟨_,hr⟩,_⟩:=h;rcases hr with⟨rfl,hn⟩|⟨g,cap,d,rfl,_,_,h1,h2,_⟩
 .exact⟨none,0,by rw[hn],ω⟩
 .exact⟨_,_,rfl,ω⟩
def xA {S:Nat->Prop}{cs:List (List aO)}{a:Option Addr} (h:Sx.dU w S cs (.slice a cs.length cap))  (hi:i<cs.length) :
  ∃ g b c,a=some ⟨g,0,none⟩/\S g/\w.cell? ⟨g,i,none⟩=some (.slice b cs[i].length c)/\Sx.mE w S cs[i] (.slice b cs[i].length c):=by
 obtain⟨vs,hr,hv⟩:=h;obtain⟨xs,rfl,hl,hk⟩:=Sx.qT cs vs hv;obtain⟨g,f,e,hS,_⟩:=hr.form ω;simp only[Value.slice.injEq,true_and] at e;obtain⟨rfl,rfl⟩:=e;have d:=hk i ω hi;obtain⟨b,c,e2,_⟩:=od d;refine⟨g,b,c,rfl,hS,?_,by rw[<-e2];exact d⟩;rw[hr.cell i ω,<-e2];simp[hl,hi]
def BV {S:Nat->Prop}{ps:List aO}{a:Option Addr} (h:Sx.mE w S ps (.slice a ps.length cap))  (hi:i<ps.length) :
  ∃ g,∃ s:Sx.cj,a=some ⟨g,0,none⟩/\S g/\(∀ j,j<6->w.cell? ⟨g,i*6+j,none⟩=s.cells[j]?)/\Sx.eY w S ps[i] s.cells:=by
 obtain⟨c,hr,hv⟩:=h;obtain⟨vs,rfl,hl,hk⟩:=Sx.xy ps c hv;obtain⟨g,d,e,hS,_⟩:=hr.form ω;simp only[Value.slice.injEq,true_and] at e;obtain⟨rfl,rfl⟩:=e;refine⟨g,vs[i],rfl,hS,λj hj=>?_,hk i ω hi⟩;rw[hr.cell (i*6+j) ω];exact Sx.Kf vs i ω j hj
def jE (c:dw):(Sx.cX c).length=3:=rfl
def qU {S:Nat->Prop}{cs:List dw} (h:Sx.db w S 282 3 v cs.length (cs.flatMap Sx.cX)):∃ a c,v=.slice a cs.length c/\cs.length<=maxLen:=by
 rcases h.2 with⟨rfl,hn⟩|⟨g,cap,d,rfl,_,_,h1,h2,_⟩
 .exact⟨none,0,by rw[hn],ω⟩
 .exact⟨_,_,rfl,ω⟩
def An {S:Nat->Prop}{cs:List dw}{a:Option Addr} (h:Sx.db w S 282 3 (.slice a cs.length cap) cs.length (cs.flatMap Sx.cX))  (hi:i<cs.length) :
  ∃ g,a=some ⟨g,0,none⟩/\S g/\w.cell? ⟨g,i*3,none⟩=some (.int .u8 cs[i].sign.toNat)/\w.cell? ⟨g,i*3+1,none⟩=some (.int .i64 cs[i].least)/\w.cell? ⟨g,i*3+2,none⟩=some (.int .i64 cs[i].most):=by
 obtain⟨g,c,e,hS,_⟩:=h.form ω;simp only[Value.slice.injEq,true_and] at e;obtain⟨rfl,rfl⟩:=e;have key:∀ j,j<3->w.cell? ⟨g,i*3+j,none⟩=(Sx.cX cs[i])[j]?:=λj hj=>by
  rw[h.cell _ ω];exact lz jE (Zj hi) j hj
 exact⟨g,rfl,hS,key 0 ω,key 1 ω,key 2 ω⟩
def IP {S:Nat->Prop}{cs:List dw}{c:dw}{a:Option Addr} (h:Sx.db w S 282 3 (.slice a (cs.length+1) cap) (cs.length+1) ((cs++[c]).flatMap Sx.cX)) :
  Sx.db w S 282 3 (.slice a cs.length cap) cs.length (cs.flatMap Sx.cX):=by
 refine⟨lA jE cs,?_⟩;rcases h.2 with⟨e,hn⟩|⟨g,f,d,e,hS,hg,h1,h2,h3,h4⟩
 .simp at hn
 .simp only[Value.slice.injEq,true_and] at e;obtain⟨rfl,rfl⟩:=e;refine .inr ⟨g,cap,d,rfl,hS,hg,ω,h2,h3,?_⟩;have:=congrArg (List.take (cs.length*3)) h4;rw[take_take,Nat.min_eq_left ω,flatMap_append] at this;rw[this,take_left' (lA jE cs)]
abbrev MA (c:dw):Value:=.agg #[.int .u8 c.sign.toNat,.int .i64 c.least,.int .i64 c.most]
def qV (w:World) (c:dw) (hc:gI c) :
  Calls prog 174 #[MA c] w λe w'=>e=.returned (.int .i64 ((eu c:Nat):Int))/\Below w.heap.size w w':=by
 rcases hc with hs|hs|hs|⟨hs,h0,h3,h1⟩
 .have d:¬((c.sign.toNat:Int)=123):=by rw[hs];decide
  have HC:Hid (eu c=1):=by show _=_;simp[eu,hs]
  go_enter func174,ntmps174
  go_wp2
  go_ret
  exact⟨by rw[HC.out];rfl,ZA⟩
 .have d:¬((c.sign.toNat:Int)=123):=by rw[hs];decide
  have HC:Hid (eu c=1):=by show _=_;simp[eu,hs]
  go_enter func174,ntmps174
  go_wp2
  go_ret
  exact⟨by rw[HC.out];rfl,ZA⟩
 .have d:¬((c.sign.toNat:Int)=123):=by rw[hs];decide
  have HC:Hid (eu c=1):=by show _=_;simp[eu,hs]
  go_enter func174,ntmps174
  go_wp2
  go_ret
  exact⟨by rw[HC.out];rfl,ZA⟩
 .have d:(c.sign.toNat:Int)=123:=by rw[hs];decide
  rcases h1 with h1|h1
  .have HC:Hid (((eu c:Nat):Int)=c.least+1):=by show _=_;simp[eu,hs,h1];omega
   go_enter func174,ntmps174
   go_wp2
   go_ret
   exact⟨by rw[HC.out];rfl,ZA⟩
  .have hm:¬ c.most=-1:=ω;have HC:Hid (((eu c:Nat):Int)=c.most):=by show _=_;simp[eu,hs,hm];omega
   go_enter func174,ntmps174
   go_wp2
   go_ret
   exact⟨by rw[HC.out];rfl,ZA⟩
def dJ (n:Nat):Nat:=min n 65
def xC (p:aO):Prop:=∀(w:World) (B:Nat) (s:Sx.cj),B<=w.heap.size->Sx.eY w (λg=>g<B) p s.cells->Calls prog 123 #[s.val] w λe w'=>e=.returned (.int .i64 ((dJ (bJ p):Nat):Int))/\Below w.heap.size w w'
def BW (cs:List (List aO)):Prop:=∀(w:World) (B:Nat) (v:Value),B<=w.heap.size->Sx.dU w (λg=>g<B) cs v->Calls prog 72 #[v] w λe w'=>e=.returned (.int .i64 ((dJ (aY cs):Nat):Int))/\Below w.heap.size w w'
theorem jF (a b:List aO):eC (a++b)=eC a+eC b:=by
 induction a with
 |nil=>simp[eC]
 |cons p a ih=>simp[eC,ih];omega
theorem iQ (a b:List (List aO)):aY (a++b)=aY a+aY b:=by
 induction a with
 |nil=>simp[aY]
 |cons p a ih=>simp[aY,ih];omega
theorem BX (p:aO):eC [p]=bJ p:=by simp[eC]
theorem xD (c:List aO):aY [c]=eC c:=by simp[aY]
def dK {p:aO}{cells:List Value} (h:Sx.eY w (λg=>g<B) p cells) (hb:Below B w w'):Sx.eY w' (λg=>g<B) p cells:=h.of_heap (λg hg _=>⟨hg,hb.block g hg⟩) p cells
def tU {p:List aO} (h:Sx.mE w (λg=>g<B) p v) (hb:Below B w w'):Sx.mE w' (λg=>g<B) p v:=h.of_heap (λg hg _=>⟨hg,hb.block g hg⟩)
def gm {p:List (List aO)} (h:Sx.dU w (λg=>g<B) p v) (hb:Below B w w'):Sx.dU w' (λg=>g<B) p v:=h.of_heap (λg hg _=>⟨hg,hb.block g hg⟩)
theorem IQ (a b:Nat):dJ (dJ a+dJ b)=dJ (a+b):=by unfold dJ;omega
theorem BY (a b:Nat):dJ (dJ a*b)=dJ (a*b):=by
 unfold dJ;rcases Nat.lt_or_ge a 66 with h|h
 .grind
 .rw[Nat.min_eq_right (a:=a) ω];rcases eq_zero_or_pos b with rfl|hb
  .simp
  .have h1:65<=65*b:=Nat.le_mul_of_pos_right _ hb;have h2:65*b<=a*b:=mul_le_mul_right _ ω;omega
def tV (cs:List (List aO)) (hin:∀ c∈cs,∀ p∈c,xC p):BW cs:=by
 intro w B v hB hR;obtain⟨va,vc,rfl,y⟩:=iA hR;have HR:=zh hR;unfold maxLen at y;obtain⟨N,hN⟩:=zx cs.length;rw[<-hN] at y ⊢;have HN:=zh hN;clear hR hN
 go_enter func72,ntmps72
 go_wp2
 go_loopw [3,10] (λm i wr=>∃ k:Nat,k<=N/\i=.int .i64 k/\m=.int .i64 ((dJ (aY (cs.take k)):Nat):Int)/\Below w.heap.size w wr) (λ_ i _=>N-(intOf i).toNat)
 case atStart=>exact⟨0,ω,rfl,rfl,ZB⟩
 case round=>
  obtain⟨k,hk,rfl,rfl,hb⟩:=hrel;have HB:=zh hb;have hs:=hb.size
  by_cases hlt:k<N
  .have Y:(k:Int)<N:=ω;obtain⟨g,b,c,rfl,hg,f,o⟩:=xA (gm HR (hb.mono hB)) (i:=k) (η HN.out)
   rename World=>wo
   have D:cs[k]'(η HN.out)∈cs:=Zg _;have x:Hid (aY (cs.take (k+1))=aY (cs.take k)+eC (cs[k]'(η HN.out))):=by
    show _=_;rw[Zl (η HN.out),iQ,xD]
   obtain⟨C,hC⟩:=zx (cs[k]'(η HN.out));rw[<-hC] at f o D x;obtain⟨_,_,_,hM⟩:=od o;have P:=zh o;unfold maxLen at hM;have R:=hin C D;obtain⟨M,A⟩:=zx C.length;rw[<-A] at f hM;have HM:=zh A;clear o A D hb;go_wp2
   go_loopw [3,16] (λm j wi=>∃ q:Nat,q<=M/\j=.int .i64 q/\m=.int .i64 ((dJ (aY (cs.take k)+eC (C.take q)):Nat):Int)/\Below wo.heap.size wo wi) (λ_ j _=>M-(intOf j).toNat)
   case atStart=>exact⟨0,ω,rfl,by simp[eC],ZB⟩
   case round=>
    obtain⟨q,hq,rfl,rfl,r⟩:=hrel;have J:=zh r;have Q:=r.size;clear f
    by_cases hlq:q<M
    .have X:(q:Int)<M:=ω;have L:q<C.length:=by have:=HM.out;omega
     obtain⟨g2,s,u,Z,d,E⟩:=BV (tU P (r.mono ω)) (i:=q) L;subst u;have d0:=d 0 ω;have d1:=d 1 ω;have d2:=d 2 ω;have d3:=d 3 ω;have d4:=d 4 ω;have d5:=d 5 ω;simp only[Sx.cj.cells,Nat.add_zero,getElem?_cons_zero,getElem?_cons_succ] at d0 d1 d2 d3 d4 d5;have F:Hid (eC (C.take (q+1))=eC (C.take q)+bJ C[q]):=by
      show _=_;rw[Zl L,jF,BX]
     obtain⟨T,G⟩:=zx (bJ C[q]);have h:=R C[q] (Zg _) (wr.alloc (.cells #[.slice s.q0 s.q1 s.q2,.int .u64 s.y0,.int .u64 s.y1,.int .u64 s.y2,.int .u64 s.y3,.slice s.r0 s.r1 s.r2] 231)) B s σ (dK E (ZA.mono ω));rw[<-G] at h F;have I:dJ T<=65:=by unfold dJ;omega
     obtain⟨t,ht⟩:=zx (dJ T);obtain⟨m,hm⟩:=zx (dJ (aY (cs.take k)+eC (C.take q)));have V:m<=65:=by rw[hm];unfold dJ;omega
     have K:Hid ((if (65:Int)<(m:Int)+(t:Int) then(65:Int) else(m:Int)+(t:Int))=((dJ (aY (cs.take k)+eC (C.take (q+1))):Nat):Int)):=by
      show _=_;rw[F.out,<-Nat.add_assoc,<-IQ,<-ht,<-hm];unfold dJ
      split<;>omega
     rw[<-ht] at h I;rw[<-hm];clear d E G ht hm r;go_wp2_with (go_at_call 123;refine h.mono ?_;rintro e w2 ⟨rfl,u⟩;have U:=zh (J.trans ((ZA.trans (u.mono χ)).mono Q));clear u)
     go_roundw
     case rel=>exact⟨q+1,ω,π,by rw[K.out],U⟩
     case measure=>simp[intOf]<;>omega
    .have a2:¬(q:Int)<M:=ω;have O:q=C.length:=by have:=HM.out;omega
     have HE:Hid (aY (cs.take (k+1))=aY (cs.take k)+eC (C.take q)):=by
      show _=_;rw[O,take_length];exact x
     clear O;go_wp2
     go_roundw
     case rel=>exact⟨k+1,ω,π,by rw[HE.out],HB.trans (J.mono hs)⟩
     case measure=>simp[intOf]<;>omega
  .have a1:¬(k:Int)<N:=ω;have HE:Hid (aY (cs.take k)=aY cs):=by
    show _=_;rw[show k=cs.length by have:=HN.out;omega,take_length]
   go_wp2
   go_ret
   exact⟨by rw[<-HE.out];rfl,HB⟩
def vz {S:Nat->Prop}{g:List (List aO)}{B:Nat->Bool}{cs:List dw}{s:Sx.cj} (h:Sx.eY w S (.mk g B cs) s.cells):Sx.dU w S g (.slice s.q0 s.q1 s.q2)/\Sx.Wd s.y0 s.y1 s.y2 s.y3 B/\Sx.db w S 282 3 (.slice s.r0 s.r1 s.r2) cs.length (cs.flatMap Sx.cX):=by
 simp only[Sx.eY] at h;obtain⟨gv,x0,x1,x2,x3,cv,he,h1,h2,h3⟩:=h;simp only[Sx.cj.cells,List.cons.injEq,Value.int.injEq,true_and,and_true] at he;obtain⟨rfl,e0,e1,e2,e3,rfl⟩:=he;refine⟨h1,?_,h3⟩;have:s.y0=x0/\s.y1=x1/\s.y2=x2/\s.y3=x3:=ω;rw[this.1,this.2.1,this.2.2.1,this.2.2.2];exact h2
def xE (n:Nat) (cs:List dw) (k:Nat) (h:k<cs.length):jT n (cs.take (k+1)).reverse=jT n (cs.take k).reverse*eu cs[k]:=by
 rw[Zl h,reverse_append];simp[jT]
def qW (g:List (List aO)) (S:Nat->Bool) (cs:List dw) (hg:BW g) (hc:∀ c∈cs,gI c):xC (.mk g S cs):=by
 intro w B s hB hR;obtain⟨F,-,D⟩:=vz hR;obtain⟨a1,c1,e1,U⟩:=iA F;obtain⟨a2,c2,e2,Y⟩:=qU D;simp only[Value.slice.injEq] at e1 e2;obtain⟨q0,q1,q2,y0,y1,y2,y3,r0,r1,r2⟩:=s
 simp only at e1 e2 F D
 obtain⟨rfl,rfl,rfl⟩:=e1;obtain⟨rfl,rfl,rfl⟩:=e2;obtain⟨w1,p⟩:=zx (w.alloc (.cells #[.slice q0 g.length q2,.int .u64 y0,.int .u64 y1,.int .u64 y2,.int .u64 y3,.slice r0 cs.length r2] 231));have I:Below w.heap.size w w1:=by rw[p];exact ZA
 have O:w1.heap[w.heap.size]?=some (.cells #[.slice q0 g.length q2,.int .u64 y0,.int .u64 y1,.int .u64 y2,.int .u64 y3,.slice r0 cs.length r2] 231):=by rw[p];exact Za w _
 have a7:w1.heap.size=w.heap.size+1:=by rw[p];simp
 have d:=hg w1 B _ ω (gm F (I.mono hB));have V:=zh D;have HW:=zh p;have a4:=zh I;have T:=zh O;have J:=zh (ix g S cs);unfold maxLen at Y U;obtain⟨N,hN⟩:=zx cs.length;have HN:=zh hN;obtain⟨M,hM⟩:=zx g.length;have HM:=zh hM;rw[<-hN] at Y;rw[<-hM] at U;obtain⟨A,hA⟩:=zx (zI g);have a6:=zh hA;rw[<-hA] at J
 by_cases hz:M=0
 .have HA:Hid (A=1):=by
   show _=_;have:g=[]:=eq_nil_of_length_eq_zero ω;rw[hA,this];rfl
  have Z:¬(0:Int)<(M:Int):=ω;rw[<-hN,<-hM];clear p I O F D hR hg hN hM d hz hA
  go_enter func123,ntmps123
  go_wp2
  go_loopw [3,18] (λm i wr=>∃ k:Nat,k<=N/\i=.int .i64 k/\m=.int .i64 ((dJ (jT A (cs.take k).reverse):Nat):Int)/\Below w.heap.size w wr) (λ_ i _=>N-(intOf i).toNat)
  case atStart=>exact⟨0,ω,rfl,by simp[HA.out,jT,dJ],ZA⟩
  case round=>
   obtain⟨k,hk,rfl,rfl,hb⟩:=hrel;have HB:=zh hb;have hs:=hb.size
   by_cases hlt:k<N
   .have X:(k:Int)<N:=ω;have u:k<cs.length:=by have:=HN.out;omega
    obtain⟨g2,P,a5,d0,d1,d2⟩:=An (V.of_heap (S':=λg=>g<B) (λg hg _=>⟨hg,(hb.mono hB).block g hg⟩)) (i:=k) u;subst P;have f:=hc cs[k] (Zg _);have x:=zh (xE A cs k u);obtain⟨c,G⟩:=zx (cs[k]);rw[<-G] at d0 d1 d2 f x;have q:eu c<=31:=by
     rcases f with h|h|h|⟨h,h0,h3,h1⟩
     .simp[eu,h]
     .simp[eu,h]
     .simp[eu,h]
     .unfold eu;split
      .omega
      .split<;>omega
    have d:=qV (wr.alloc (.cells #[.int .u8 c.sign.toNat,.int .i64 c.least,.int .i64 c.most] 282)) c f;obtain⟨t,ht⟩:=zx (eu c);obtain⟨m,hm⟩:=zx (dJ (jT A (cs.take k).reverse));have o:m<=65:=by rw[hm];unfold dJ;omega
    have L:m*t<=65*31:=Nat.mul_le_mul o ω;have E:((m*t:Nat):Int)=(m:Int)*(t:Int):=χ;have Q:0<=(m:Int)*(t:Int):=ω;have K:(m:Int)*(t:Int)<=2015:=ω;have r:Hid ((if (65:Int)<(m:Int)*(t:Int) then(65:Int) else(m:Int)*(t:Int))=((dJ (jT A (cs.take (k+1)).reverse):Nat):Int)):=by
     show _=_;rw[x.out,<-BY,<-ht,<-hm,<-E];unfold dJ
     split<;>omega
    rw[<-ht] at d;rw[<-hm];clear G ht hm hb f L E q o;go_wp2_with (go_at_call 174;refine d.mono ?_;rintro e w2 ⟨rfl,j⟩;have C:=zh (HB.trans ((ZA.trans (j.mono χ)).mono hs));clear j)
    go_roundw
    case rel=>exact⟨k+1,ω,π,by rw[r.out],C⟩
    case measure=>simp[intOf]<;>omega
   .have a3:¬(k:Int)<N:=ω;have HE:Hid (jT A (cs.take k).reverse=jT A cs.reverse):=by
     show _=_;rw[show k=cs.length by have:=HN.out;omega,take_length]
    go_wp2
    go_ret
    exact⟨by rw[J.out,<-HE.out];rfl,HB⟩
 .have HA:Hid (A=aY g):=by
   show _=_
   cases g with
   |nil=>simp at hM;omega
   |cons c gs=>rw[hA,kC]
  have Z:(0:Int)<(M:Int):=ω;obtain⟨y,hy⟩:=zx (dJ (aY g));have HY:=zh hy;rw[<-hy,<-hM] at d;rw[<-hN,<-hM];rw[<-hN,<-hM] at HW T;clear p I O F D hR hg hN hM hz hA hy
  go_enter func123,ntmps123
  go_wp2_with (go_at_call 72;rw[<-HW.out];refine d.mono ?_;rintro e w2 ⟨rfl,j⟩;have C:=zh (a4.trans (j.mono ω));have R:=(j.block w.heap.size ω).trans T;have x5:w2.cell? ⟨w.heap.size,5,none⟩=some (.slice r0 N r2):=(by simp[cell?,R]);clear j R)
  go_loopw [3,18] (λm i wr=>∃ k:Nat,k<=N/\i=.int .i64 k/\m=.int .i64 ((dJ (jT A (cs.take k).reverse):Nat):Int)/\Below w.heap.size w wr) (λ_ i _=>N-(intOf i).toNat)
  case atStart=>exact⟨0,ω,rfl,by simp[HA.out,jT,HY.out],C⟩
  case round=>
   obtain⟨k,hk,rfl,rfl,hb⟩:=hrel;have HB:=zh hb;have hs:=hb.size
   by_cases hlt:k<N
   .have X:(k:Int)<N:=ω;have u:k<cs.length:=by have:=HN.out;omega
    obtain⟨g2,P,a5,d0,d1,d2⟩:=An (V.of_heap (S':=λg=>g<B) (λg hg _=>⟨hg,(hb.mono hB).block g hg⟩)) (i:=k) u;subst P;have f:=hc cs[k] (Zg _);have x:=zh (xE A cs k u);obtain⟨c,G⟩:=zx (cs[k]);rw[<-G] at d0 d1 d2 f x;have q:eu c<=31:=by
     rcases f with h|h|h|⟨h,h0,h3,h1⟩
     .simp[eu,h]
     .simp[eu,h]
     .simp[eu,h]
     .unfold eu;split
      .omega
      .split<;>omega
    have d:=qV (wr.alloc (.cells #[.int .u8 c.sign.toNat,.int .i64 c.least,.int .i64 c.most] 282)) c f;obtain⟨t,ht⟩:=zx (eu c);obtain⟨m,hm⟩:=zx (dJ (jT A (cs.take k).reverse));have o:m<=65:=by rw[hm];unfold dJ;omega
    have L:m*t<=65*31:=Nat.mul_le_mul o ω;have E:((m*t:Nat):Int)=(m:Int)*(t:Int):=χ;have Q:0<=(m:Int)*(t:Int):=ω;have K:(m:Int)*(t:Int)<=2015:=ω;have r:Hid ((if (65:Int)<(m:Int)*(t:Int) then(65:Int) else(m:Int)*(t:Int))=((dJ (jT A (cs.take (k+1)).reverse):Nat):Int)):=by
     show _=_;rw[x.out,<-BY,<-ht,<-hm,<-E];unfold dJ
     split<;>omega
    rw[<-ht] at d;rw[<-hm];clear G ht hm hb f L E q o;go_wp2_with (go_at_call 174;refine d.mono ?_;rintro e w2 ⟨rfl,j⟩;have C:=zh (HB.trans ((ZA.trans (j.mono χ)).mono hs));clear j)
    go_roundw
    case rel=>exact⟨k+1,ω,π,by rw[r.out],C⟩
    case measure=>simp[intOf]<;>omega
   .have a3:¬(k:Int)<N:=ω;have HE:Hid (jT A (cs.take k).reverse=jT A cs.reverse):=by
     show _=_;rw[show k=cs.length by have:=HN.out;omega,take_length]
    go_wp2
    go_ret
    exact⟨by rw[J.out,<-HE.out];rfl,HB⟩
mutual
theorem IR:∀ p,iX p->xC p
 |.mk g S cs,h=>by
  simp only[iX] at h;exact qW g S cs (tV g (qX g h.2)) h.1
theorem xF:∀ ps,dW ps->∀ p∈ps,xC p
 |[],_,p,hp=>by simp at hp
 |q::ps,h,p,hp=>by
  simp only[dW] at h;rcases mem_cons.1 hp with he|hp
  .rw[he];exact IR q h.1
  .exact xF ps h.2 p hp
theorem qX:∀ cs,aX cs->∀ c∈cs,∀ p∈c,xC p
 |[],_,c,hc,p,hp=>by simp at hc
 |d::cs,h,c,hc,p,hp=>by
  simp only[aX] at h;rcases mem_cons.1 hc with he|hc
  .rw[he] at hp;exact xF d h.1 p hp
  .exact qX cs h.2 c hc p hp
end
def xG (cs:List (List aO)) (h:aX cs):BW cs:=tV cs (qX cs h)
def gW (sb:Nat) (w:World) (vb vf:Value) (x:Pc×Ex) (r:Ending) (w':World):Prop:=r=.returned (pE x.1)/\∃ vb' vf',ch w' sb vb' vf' x.2/\gj sb w vb vf w' vb' vf'
structure jG (w:World) (sb:Nat) (vb vf:Value) (e:Ex) (n k:Nat):Prop where
 tz:TabZ w
 s1:1<sb
 at_:ch w sb vb vf e
 ok:dE n e
 le:n+k<=64
theorem jG.below {sb:Nat} (h:jG w sb vb vf e n k) (hb:Below w.heap.size w w'):jG w' sb vb vf e n k:=⟨h.tz.keep (hb.block 1 h.tz.lt),h.s1,h.at_.below hb,h.ok,h.le⟩
def jG.less {sb:Nat} (h:jG w sb vb vf e n k) (hk:k'<=k):jG w sb vb vf e n k':=⟨h.tz,h.s1,h.at_,h.ok,by have:=h.le;omega⟩
theorem jG.lt {sb:Nat} (h:jG w sb vb vf e n k)  (hb:eJ sb vb vf b):sb<=b/\b<w.heap.size:=h.at_.lt hb
theorem jG.sb {sb:Nat} (h:jG w sb vb vf e n k):sb<w.heap.size:=(h.lt (.inl rfl)).2
def jG.on {sb:Nat}{e e':Ex} (h:jG w sb vb vf e n k) (hx:ch w' sb vb' vf' e') (hg:gj sb w vb vf w' vb' vf') (ho:dE n' e') (hk:n'+k'<=64):jG w' sb vb' vf' e' n' k':=
 ⟨h.tz.keep (hg.same h.tz.lt (λq=>by have:=(h.lt q).1;have:=h.s1;omega)),h.s1,hx,ho,hk⟩
def DG {sb:Nat} (hx:∀ b,eJ sb vb vf b->sb<=b) (hs:sb<=w.heap.size) (hg:gj sb w vb vf w' vb' vf'):Below sb w w':=
 ⟨hg.exc.os,hg.exc.tape,hg.exc.output,hg.exc.size,λk hk=>hg.same ω (λq=>by have:=hx k q;omega)⟩
def jG.bl {sb:Nat} (h:jG w sb vb vf e n k) (hg:gj sb w vb vf w' vb' vf'):Below sb w w':=DG (λb hb=>(h.lt hb).1) (Nat.le_of_lt h.sb) hg
abbrev Mg (s:Sx.cj):Value:=.agg #[.slice s.q0 s.q1 s.q2,.int .u64 s.y0,.int .u64 s.y1,.int .u64 s.y2,.int .u64 s.y3]
def iM (p:aO):Prop:=∀(w:World) (sb:Nat) (vb vf:Value) (e:Ex) (n:Nat) (s:Sx.cj),jG w sb vb vf e n (bJ p)->Sx.eY w (λg=>g<sb) p s.cells ->
 Calls prog 176 #[.pointer (some ⟨sb,0,none⟩),s.val] w (gW sb w vb vf (bp p e))
def xH (g:List (List aO)) (S:Nat->Bool):Mk:=match g with|[]=>jZ S|_::_=>bF g fF
def qi (g:List (List aO)) (S:Nat->Bool):Prop:=∀(w:World) (sb:Nat) (vb vf:Value) (e:Ex) (n:Nat) (s:Sx.cj),jG w sb vb vf e n (zI g)->Sx.dU w (λg=>g<sb) g (.slice s.q0 s.q1 s.q2)->Sx.Wd s.y0 s.y1 s.y2 s.y3 S ->
 Calls prog 198 #[.pointer (some ⟨sb,0,none⟩),Mg s] w (gW sb w vb vf (xH g S e))
def Ao (p:aO) (c:dw):Prop:=∀(w:World) (sb:Nat) (vb vf:Value) (e:Ex) (n:Nat) (s:Sx.cj),jG w sb vb vf e n (bJ p*eu c)->Sx.eY w (λg=>g<sb) p s.cells ->
 Calls prog 199 #[.pointer (some ⟨sb,0,none⟩),s.val,MA c] w (gW sb w vb vf (dh (bp p) c e))
def qh (ps:List aO):Prop:=∀(w:World) (sb:Nat) (vb vf:Value) (e:Ex) (n:Nat) (v:Value),jG w sb vb vf e n (eC ps)->Sx.mE w (λg=>g<sb) ps v ->
 Calls prog 124 #[.pointer (some ⟨sb,0,none⟩),v] w (gW sb w vb vf (iw ps eD e))
def gC (cs:List (List aO)):Prop:=∀(w:World) (sb:Nat) (vb vf:Value) (e:Ex) (n:Nat) (v:Value),jG w sb vb vf e n (aY cs)->Sx.dU w (λg=>g<sb) cs v ->
 Calls prog 73 #[.pointer (some ⟨sb,0,none⟩),v] w (gW sb w vb vf (bF cs fF e))
theorem vA (g:List (List aO)) (S:Nat->Bool) (cs:List dw):bp (.mk g S cs)=gV (xH g S) (zI g) cs.reverse:=by
 rw[zJ];cases g<;>rfl
def xI {g:List (List aO)}{cs:List dw} (h:bJ (.mk g S cs)=0) (e:Ex):bp (.mk g S cs) e=(eD,e):=by
 rw[vA];rw[ix] at h
 match hc:cs.reverse,h with
 |[],h=>simp only[jT] at h;simp[gV,h]
 |c::r,h=>simp only[gV,Zi h]
def IS {g:List (List aO)} (h:bJ (.mk g S [])≠0):bp (.mk g S [])=xH g S:=by
 rw[vA];rw[ix] at h;simp only[reverse_nil,jT] at h;simp[gV,h]
def Gc {g:List (List aO)}{cs:List dw}{c:dw} (h:bJ (.mk g S (cs++[c]))≠0):bp (.mk g S (cs++[c]))=dh (bp (.mk g S cs)) c:=by
 rw[vA,vA];rw[ix] at h;simp only[reverse_append,reverse_cons,reverse_nil,nil_append,cons_append] at h ⊢;simp only[gV,Zh h]
theorem Gd (g:List (List aO)) (S:Nat->Bool) (cs:List dw) (c:dw):bJ (.mk g S (cs++[c]))=bJ (.mk g S cs)*eu c:=by
 rw[ix,ix];simp[jT]
structure PB (W:World) (H:Nat) (s:Sx.cj):Prop where
 k0:W.heap[H]?=some (.cells #[.slice s.q0 s.q1 s.q2,.int .u64 s.y0,.int .u64 s.y1,.int .u64 s.y2,.int .u64 s.y3,.slice s.r0 s.r1 s.r2] 231)
 k1:W.heap[H+1]?=some (.cells zC 152)
def PB.keep {s:Sx.cj} (h:PB W H s) (k:∀ j,H<=j->j<H+2->W'.heap[j]?=W.heap[j]?):PB W' H s:=⟨(k _ ω ω).trans h.k0,(k _ ω ω).trans h.k1⟩
def PB.lt {s:Sx.cj} (h:PB W H s):H+1<W.heap.size:=(ZC h.k1)
def lX {x0 x1 x2 x3 x4 x5:Value}{T:TypeId} (h:w.heap[b]?=some (.cells #[x0,x1,x2,x3,x4,x5] T)):w.cell? ⟨b,0,none⟩=some x0/\w.cell? ⟨b,1,none⟩=some x1/\w.cell? ⟨b,2,none⟩=some x2/\w.cell? ⟨b,3,none⟩=some x3/\w.cell? ⟨b,4,none⟩=some x4/\w.cell? ⟨b,5,none⟩=some x5:=by
 refine⟨?_,?_,?_,?_,?_,?_⟩<;>simp[cell?,h]
def Aq (w:World) (s:Sx.cj):PB ((w.alloc (.cells #[.slice s.q0 s.q1 s.q2,.int .u64 s.y0,.int .u64 s.y1,.int .u64 s.y2,.int .u64 s.y3,.slice s.r0 s.r1 s.r2] 231)).alloc (.cells zC 152)) w.heap.size s:=by
 refine⟨(Ze _ _ _ χ).trans (Za w _),?_⟩;have:=Za (w.alloc (.cells #[.slice s.q0 s.q1 s.q2,.int .u64 s.y0,.int .u64 s.y1,.int .u64 s.y2,.int .u64 s.y3,.slice s.r0 s.r1 s.r2] 231)) (.cells zC 152)
 simpa using this
def tX (p:aO) (hp:xC p) (hz:bJ p=0) (w:World) (sb:Nat) (vb vf:Value) (e:Ex) (n:Nat) (s:Sx.cj) (h:jG w sb vb vf e n (bJ p)) (hR:Sx.eY w (λg=>g<sb) p s.cells) :
  Calls prog 176 #[.pointer (some ⟨sb,0,none⟩),s.val] w (gW sb w vb vf (eD,e)):=by
 have HH:=zh h;have HR:=zh hR;obtain⟨w1,c⟩:=zx ((w.alloc (.cells #[.slice s.q0 s.q1 s.q2,.int .u64 s.y0,.int .u64 s.y1,.int .u64 s.y2,.int .u64 s.y3,.slice s.r0 s.r1 s.r2] 231)).alloc (.cells zC 152));have A:Hid (PB w1 w.heap.size s):=by rw[c];exact Aq w s
 have x:Below w.heap.size w w1:=by rw[c];exact ZA.alloc χ _
 have D:w1.heap.size=w.heap.size+2:=by rw[c];simp
 have d:=hp w1 sb s (η h.sb) (dK hR (x.mono (Nat.le_of_lt h.sb)));rw[hz] at d;have C:=zh x;have HW:=zh c;have y:((dJ 0:Nat):Int)=0:=Zr;rw[y] at d
 go_enter func176,ntmps176
 go_wp2_with (go_at_call 123;rw[<-HW.out];refine d.mono ?_;rintro r w2 ⟨rfl,u⟩;have HP:=zh (A.keep (λj h1 h2=>u.block j ω));have t:=zh (C.trans (u.mono ω));obtain⟨p0,p1,p2,p3,p4,p5⟩:=lX HP.k0;obtain⟨z0,z1,z2,z3,z4,z5,z6,z7,z8⟩:=eX HP.k1;have zf:∀ o,frozen? w2 ⟨w.heap.size+1,o,none⟩=false:=(λo=>by simp[frozen?,HP.out.k1]);have pf:∀ o,frozen? w2 ⟨w.heap.size,o,none⟩=false:=(λo=>by simp[frozen?,HP.out.k0]))
 obtain⟨W,hW⟩:=zx (S9 w2 (w.heap.size+1) eD);have f:=hW;simp only[S9,eD,W4.none,Int.natCast_zero] at f;rw[<-f];have hq:W.heap[w.heap.size+1]?=some (.cells (ik eD) 152):=by rw[hW];exact fx _ HP.k1
 obtain⟨r0,r1,r2,r3,r4,r5,r6,r7,r8⟩:=bP hq;refine Zb (v:=pE eD) (by simp[results,results176,go_sem,r0,r1,r2,r3,r4,r5,r6,r7,r8]) rfl ⟨rfl,vb,vf,?_,?_⟩
 .rw[hW];exact ch.put (HH.at_.below t) (λq=>by have:=(HH.lt q).2;omega) _
 .rw[hW];exact gj.put (gj.of_below t) ω _
theorem PB.al {s:Sx.cj} (h:PB W H s) (ob:Obj):PB (W.alloc ob) H s:=h.keep (λj h1 h2=>Ze _ _ _ (η h.lt))
def DH (g:List (List aO)) (S:Nat->Bool) (hp:xC (.mk g S [])) (ha:qi g S) (hz:bJ (.mk g S [])≠0) (w:World) (sb:Nat) (vb vf:Value) (e:Ex) (n:Nat) (s:Sx.cj) (h:jG w sb vb vf e n (bJ (.mk g S []))) (hR:Sx.eY w (λg=>g<sb) (.mk g S []) s.cells) :
  Calls prog 176 #[.pointer (some ⟨sb,0,none⟩),s.val] w (gW sb w vb vf (xH g S e)):=by
 have HH:=zh h;obtain⟨u,f,p⟩:=vz hR;obtain⟨a2,c2,e2,-⟩:=qU p;simp only[Value.slice.injEq,length_nil] at e2;have A:s.r1=0:=e2.2.1;obtain⟨q0,q1,q2,y0,y1,y2,y3,r0,r1,r2⟩:=s
 simp only at A
 subst A
 simp only at u f p
 have P:=zh u;obtain⟨w1,c⟩:=zx ((w.alloc (.cells #[.slice q0 q1 q2,.int .u64 y0,.int .u64 y1,.int .u64 y2,.int .u64 y3,.slice r0 0 r2] 231)).alloc (.cells zC 152));have R:Hid (PB w1 w.heap.size ⟨q0,q1,q2,y0,y1,y2,y3,r0,0,r2⟩):=by rw[c];exact Aq w ⟨q0,q1,q2,y0,y1,y2,y3,r0,0,r2⟩
 have x:Below w.heap.size w w1:=by rw[c];exact ZA.alloc χ _
 have V:w1.heap.size=w.heap.size+2:=by rw[c];simp
 have I:=hp w1 sb _ (η h.sb) (dK hR (x.mono (Nat.le_of_lt h.sb)));have N:=zh x;have HW:=zh c;have F:bJ (.mk g S [])=zI g:=by rw[ix];rfl
 obtain⟨m,hm⟩:=zx (dJ (bJ (.mk g S [])));have T:¬(m:Int)=0:=by rw[hm];unfold dJ;omega
 rw[<-hm] at I;have J:=λw2 (hb:Below w.heap.size w w2)=>ha w2 sb vb vf e n ⟨q0,q1,q2,y0,y1,y2,y3,r0,0,r2⟩ ((HH.below hb).less (by rw[F];exact zq)) (gm P (hb.mono (Nat.le_of_lt HH.sb))) f
 obtain⟨X,hX⟩:=zx (xH g S e);rw[<-hX] at J ⊢;have U:=zh h.sb;clear c x h hR hz hm u p f F hX
 go_enter func176,ntmps176
 go_wp2_with (first|(go_at_call 198;refine(J w2 D).mono ?_;rintro r w3 ⟨rfl,y,C,K,d⟩;have M:=zh K;have Q:=zh (((gj.of_below D).trans d));have O:=d.same (b:=w.heap.size+1) HP.lt (λq=>by have:=(HH.lt q).2;omega);have t:=zh (O.trans HP.k1);have L:Hid (¬ eJ sb y C (w.heap.size+1)):=(λq=>by rcases d.new _ q with q'|q';have:=(HH.lt q').2;omega;have:=HP.lt;omega);obtain⟨z0,z1,z2,z3,z4,z5,z6,z7,z8⟩:=eX t;have zf:∀ o,frozen? w3 ⟨w.heap.size+1,o,none⟩=false:=(λo=>by simp[frozen?,t.out]))|(go_at_call 123;rw[<-HW.out];refine I.mono ?_;rintro r w2 ⟨rfl,E⟩;have HP:=zh (R.keep (λj h1 h2=>E.block j ω));have D:=zh (N.trans (E.mono ω));obtain⟨p0,p1,p2,p3,p4,p5⟩:=lX HP.k0))
 obtain⟨W,hW⟩:=zx (S9 w3 (w.heap.size+1) X.1);have G:=hW;simp only[S9] at G;rw[<-G];have hq:W.heap[(w.heap.size+1)]?=some (.cells (ik X.1) 152):=(by rw[hW];exact fx _ t);obtain⟨r0,r1,r2,r3,r4,r5,r6,r7,r8⟩:=bP hq;refine Zb (v:=pE X.1) (by simp[results,results176,go_sem,r0,r1,r2,r3,r4,r5,r6,r7,r8]) rfl ⟨rfl,y,C,?_,?_⟩
 .rw[hW];exact ch.put M L _
 .rw[hW];exact gj.put Q ω _
def As (g:List (List aO)) (S:Nat->Bool) (cs:List dw) (c:dw) (hp:xC (.mk g S (cs++[c]))) (ht:Ao (.mk g S cs) c) (hz:bJ (.mk g S (cs++[c]))≠0) (w:World) (sb:Nat) (vb vf:Value) (e:Ex) (n:Nat) (s:Sx.cj) (h:jG w sb vb vf e n (bJ (.mk g S (cs++[c])))) (hR:Sx.eY w (λg=>g<sb) (.mk g S (cs++[c])) s.cells) :
  Calls prog 176 #[.pointer (some ⟨sb,0,none⟩),s.val] w (gW sb w vb vf (dh (bp (.mk g S cs)) c e)):=by
 have HH:=zh h;obtain⟨E,y,d⟩:=vz hR;obtain⟨a2,c2,e2,G⟩:=qU d;simp only[Value.slice.injEq,length_append,length_cons,length_nil,Nat.zero_add] at e2 G;have K:s.r1=cs.length+1:=e2.2.1;obtain⟨q0,q1,q2,y0,y1,y2,y3,r0,r1,r2⟩:=s
 simp only at K
 subst K;clear e2;simp only[length_append,length_cons,length_nil,Nat.zero_add] at E y d;obtain⟨g2,a8,er,b3,J,C⟩:=d.form ω;simp only[Value.slice.injEq,true_and] at er;obtain⟨rfl,rfl⟩:=er;have hcut:=IP d;have t:Sx.db w (λg=>g<sb) 282 3 (.slice (some ⟨g2,0,none⟩) (cs++[c]).length r2) (cs++[c]).length ((cs++[c]).flatMap Sx.cX):=by simpa using d
 obtain⟨g3,eg,-,d0,d1,d2⟩:=An t (i:=cs.length) χ;simp only[Option.some.injEq,Addr.mk.injEq,and_true] at eg;subst eg;simp only[getElem_concat_length] at d0 d1 d2;obtain⟨N,hN⟩:=zx cs.length;rw[<-hN] at G d hcut d0 d1 d2 J hR ⊢;have Y:Hid (∀ w2,Below w.heap.size w w2->Sx.eY w2 (λg=>g<sb) (.mk g S cs) (Sx.cj.cells ⟨q0,q1,q2,y0,y1,y2,y3,(some ⟨g2,0,none⟩),N,r2⟩)):=λw2 hb=>by
  refine dK ?_ (hb.mono (Nat.le_of_lt h.sb));simp only[Sx.eY,Sx.cj.cells];refine⟨_,_,_,_,_,_,rfl,E,y,?_⟩;rw[hN] at hcut ⊢;exact hcut
 obtain⟨w1,f⟩:=zx ((w.alloc (.cells #[.slice q0 q1 q2,.int .u64 y0,.int .u64 y1,.int .u64 y2,.int .u64 y3,.slice (some ⟨g2,0,none⟩) (N+1) r2] 231)).alloc (.cells zC 152));have a6:Hid (PB w1 w.heap.size ⟨q0,q1,q2,y0,y1,y2,y3,(some ⟨g2,0,none⟩),N+1,r2⟩):=by rw[f];exact Aq w ⟨q0,q1,q2,y0,y1,y2,y3,(some ⟨g2,0,none⟩),N+1,r2⟩
 have F:Below w.heap.size w w1:=by rw[f];exact ZA.alloc χ _
 have b2:w1.heap.size=w.heap.size+2:=by rw[f];simp
 have U:=hp w1 sb _ (η h.sb) (dK hR (F.mono (Nat.le_of_lt h.sb)));have a4:=zh F;have HW:=zh f;obtain⟨m,hm⟩:=zx (dJ (bJ (.mk g S (cs++[c]))));have a9:¬(m:Int)=0:=by rw[hm];unfold dJ;omega
 rw[<-hm] at U;have M:=λw2 (hb:Below w.heap.size w w2)=>ht w2 sb vb vf e n ⟨q0,q1,q2,y0,y1,y2,y3,(some ⟨g2,0,none⟩),N,r2⟩ ((HH.below hb).less (by rw[Gd];exact zq)) (Y w2 hb)
 obtain⟨X,hX⟩:=zx (dh (bp (.mk g S cs)) c e);rw[<-hX] at M ⊢;have HD:Hid (∀ w2,Below w.heap.size w w2->w2.cell? ⟨g2,N*3,none⟩=some (.int .u8 c.sign.toNat)/\w2.cell? ⟨g2,N*3+1,none⟩=some (.int .i64 c.least)/\w2.cell? ⟨g2,N*3+2,none⟩=some (.int .i64 c.most)):=λw2 hb=>⟨cell_below hb d0,cell_below hb d1,cell_below hb d2⟩
 have b0:=zh h.sb;unfold maxLen at G;clear f F h hR hz hm E d y t hcut d0 d1 d2 hX hN C
 go_enter func176,ntmps176
 go_wp2_with (first|(go_at_call 199;obtain⟨w3,A⟩:=zx ((w2.alloc (.cells #[.int .u8 c.sign.toNat,.int .i64 c.least,.int .i64 c.most] 282)).setCell ⟨w.heap.size,5,none⟩ (.slice (some ⟨g2,0,none⟩) N r2));have Q:Below w.heap.size w w3:=(by rw[A];exact(x.alloc x.size _).setCell (p:=⟨w.heap.size,5,none⟩) zq _);have L:w3.heap[w.heap.size+1]?=some (.cells zC 152):=(by rw[A,ah _ _ _ _ ω];exact(HP.al _).k1);rw[<-A];refine(M w3 Q).mono ?_;rintro r w4 ⟨rfl,I,O,V,u⟩;have a3:=zh V;have a5:=zh (((gj.of_below Q).trans u));have T:=(ZC L);have D:=zh ((u.same T (λq=>by have:=(HH.lt q).2;omega)).trans L);have Z:Hid (¬ eJ sb I O (w.heap.size+1)):=(λq=>by rcases u.new _ q with q'|q';have:=(HH.lt q').2;omega;omega);obtain⟨z0,z1,z2,z3,z4,z5,z6,z7,z8⟩:=eX D;have zf:∀ o,frozen? w4 ⟨w.heap.size+1,o,none⟩=false:=(λo=>by simp[frozen?,D.out]))|(go_at_call 123;rw[<-HW.out];refine U.mono ?_;rintro r w2 ⟨rfl,P⟩;have HP:=zh (a6.keep (λj h1 h2=>P.block j ω));have x:=zh (a4.trans (P.mono ω));obtain⟨p0,p1,p2,p3,p4,p5⟩:=lX HP.k0;obtain⟨z0,z1,z2,z3,z4,z5,z6,z7,z8⟩:=eX HP.k1;have zf:∀ o,frozen? w2 ⟨w.heap.size+1,o,none⟩=false:=(λo=>by simp[frozen?,HP.out.k1]);have pf:∀ o,frozen? w2 ⟨w.heap.size,o,none⟩=false:=(λo=>by simp[frozen?,HP.out.k0]);have a1:=(λob=>lX (HP.al ob).k0);have b1:=(λob=>(λo=>by simp[frozen?,(HP.out.al ob).k0]:∀ o,frozen? (w2.alloc ob) ⟨w.heap.size,o,none⟩=false));simp only at a1;obtain⟨d0,d1,d2⟩:=HD w2 x;have a7:=HP.lt))
 obtain⟨W,hW⟩:=zx (S9 w4 (w.heap.size+1) X.1);have R:=hW;simp only[S9] at R;rw[<-R];have hq:W.heap[(w.heap.size+1)]?=some (.cells (ik X.1) 152):=(by rw[hW];exact fx _ D);obtain⟨r0,r1,r2,r3,r4,r5,r6,r7,r8⟩:=bP hq;refine Zb (v:=pE X.1) (by simp[results,results176,go_sem,r0,r1,r2,r3,r4,r5,r6,r7,r8]) rfl ⟨rfl,I,O,?_,?_⟩
 .rw[hW];exact ch.put a3 Z _
 .rw[hW];exact gj.put a5 ω _
theorem BZ (g:List (List aO)) (S:Nat->Bool) (ha:qi g S) (ht:∀ cs c,(∀ x∈cs,gI x)->iM (.mk g S cs)->gI c->Ao (.mk g S cs) c) (hg:BW g):∀(k:Nat) (cs:List dw),cs.length=k->(∀ c∈cs,gI c)->iM (.mk g S cs)
 |0,cs,hk,hc=>by
  obtain rfl:=eq_nil_of_length_eq_zero hk;intro w sb vb vf e n s h hR;have hp:=qW g S [] hg hc
  by_cases hz:bJ (.mk g S [])=0
  .rw[xI hz];exact tX _ hp hz w sb vb vf e n s h hR
  .rw[IS hz];exact DH g S hp ha hz w sb vb vf e n s h hR
 |k+1,cs,hk,hc=>by
  intro w sb vb vf e n s h hR;have hp:=qW g S cs hg hc
  by_cases hz:bJ (.mk g S cs)=0
  .rw[xI hz];exact tX _ hp hz w sb vb vf e n s h hR
  .have d:cs≠[]:=by rintro rfl;simp at hk
   obtain⟨ds,c,rfl⟩:∃ ds c,cs=ds++[c]:=⟨cs.dropLast,cs.getLast d,(dropLast_concat_getLast d).symm⟩
   rw[Gc hz];exact As g S ds c hp (ht ds c (λx hx=>hc x (by simp[hx])) (BZ g S ha ht hg k ds (by simpa using hk) (λx hx=>hc x (by simp[hx]))) (hc c χ)) hz w sb vb vf e n s h hR
def it (g:List (List aO)) (S:Nat->Bool) (hne:g≠[]) (hg:gC g) (w:World) (sb:Nat) (vb vf:Value) (e:Ex) (n:Nat) (s:Sx.cj) (h:jG w sb vb vf e n (aY g)) (hR:Sx.dU w (λg=>g<sb) g (.slice s.q0 s.q1 s.q2)) :
  Calls prog 198 #[.pointer (some ⟨sb,0,none⟩),Mg s] w (gW sb w vb vf (bF g fF e)):=by
 have HH:=zh h;obtain⟨a1,c1,e1,C⟩:=iA hR;simp only[Value.slice.injEq] at e1;obtain⟨q0,q1,q2,y0,y1,y2,y3,r0,r1,r2⟩:=s
 simp only at e1 hR
 obtain⟨-,rfl,-⟩:=e1;have y:=length_pos_iff.2 hne;obtain⟨N,hN⟩:=zx g.length;unfold maxLen at C;rw[<-hN] at y C hR ⊢;obtain⟨w1,c⟩:=zx ((w.alloc (.cells #[.slice q0 N q2,.int .u64 y0,.int .u64 y1,.int .u64 y2,.int .u64 y3] 228)).alloc (.cells zC 152));have f:Below w.heap.size w w1:=by rw[c];exact ZA.alloc χ _
 have u:w1.heap[w.heap.size+1]?=some (.cells zC 152):=by
  rw[c];have:=Za (w.alloc (.cells #[.slice q0 N q2,.int .u64 y0,.int .u64 y1,.int .u64 y2,.int .u64 y3] 228)) (.cells zC 152)
  simpa using this
 have K:w1.heap.size=w.heap.size+2:=by rw[c];simp
 have d:=hg w1 sb vb vf e n _ (h.below f) (gm hR (f.mono (Nat.le_of_lt h.sb)));have J:=zh f;have HW:=zh c;have F:=zh u;obtain⟨X,hX⟩:=zx (bF g fF e);rw[<-hX] at d ⊢;clear c f u h hR hne hg hN hX
 go_enter func198,ntmps198
 go_wp2_with (go_at_call 73;rw[<-HW.out];refine d.mono ?_;rintro r w3 ⟨rfl,x,A,D,j⟩;have E:=zh D;have G:=zh (((gj.of_below J).trans j));have p:=zh ((j.same ω (λq=>by have:=(HH.lt q).2;omega)).trans F);have I:Hid (¬ eJ sb x A (w.heap.size+1)):=(λq=>by rcases j.new _ q with q'|q';have:=(HH.lt q').2;omega;omega);obtain⟨z0,z1,z2,z3,z4,z5,z6,z7,z8⟩:=eX p;have zf:∀ o,frozen? w3 ⟨w.heap.size+1,o,none⟩=false:=(λo=>by simp[frozen?,p.out]))
 obtain⟨W,hW⟩:=zx (S9 w3 (w.heap.size+1) X.1);have t:=hW;simp only[S9] at t;rw[<-t];have hq:W.heap[(w.heap.size+1)]?=some (.cells (ik X.1) 152):=(by rw[hW];exact fx _ p);obtain⟨r0,r1,r2,r3,r4,r5,r6,r7,r8⟩:=bP hq;refine Zb (v:=pE X.1) (by simp[results,results198,go_sem,r0,r1,r2,r3,r4,r5,r6,r7,r8]) rfl ⟨rfl,x,A,?_,?_⟩
 .rw[hW];exact ch.put E I _
 .rw[hW];exact gj.put G ω _
def IT (g:List (List aO)) (S:Nat->Bool) (hg:gC g):qi g S:=by
 intro w sb vb vf e n s h hR hS
 cases g with
 |nil=>
  obtain⟨a1,c1,e1,d⟩:=iA hR;simp only[Value.slice.injEq,length_nil] at e1;have:=Gb w sb vb vf e s.q0 s.q2 ⟨s.y0,s.y1,s.y2,s.y3⟩ S n h.s1 h.at_ (by have:=h.le;simp[zI] at this;omega) h.ok hS;rw[show Mg s=.agg #[.slice s.q0 0 s.q2,.int .u64 (s.y0:Int),.int .u64 (s.y1:Int),.int .u64 (s.y2:Int),.int .u64 (s.y3:Int)] by rw[<-e1.2.1]];exact this
 |cons c gs=>
  rw[kC] at h;exact it (c::gs) S χ hg w sb vb vf e n s h hR
theorem pG:∀ {ps:List aO},dW ps↔∀ p∈ps,iX p
 |[]=>by simp[dW]
 |p::ps=>by simp[dW,pG (ps:=ps)]
theorem jm:∀ {cs:List (List aO)},aX cs↔∀ c∈cs,dW c
 |[]=>by simp[aX]
 |c::cs=>by simp[aX,jm (cs:=cs)]
theorem xJ:∀(ps:List aO) (p:aO) (a:Pc) (e:Ex),iw (ps++[p]) a e=((iw ps a e).1.join (bp p (iw ps a e).2).1,(bp p (iw ps a e).2).2.join (iw ps a e).1 (bp p (iw ps a e).2).1)
 |[],p,a,e=>by simp[iw]
 |q::ps,p,a,e=>by simp only[cons_append,iw];exact xJ ps p _ _
theorem tY:∀(cs:List (List aO)) (c:List aO) (a:Pc) (e:Ex),bF (cs++[c]) a e=((bF cs a e).1.alt (iw c eD (bF cs a e).2).1,(iw c eD (bF cs a e).2).2)
 |[],c,a,e=>by simp[bF]
 |d::cs,c,a,e=>by simp only[cons_append,bF];exact tY cs c _ _
structure CB (W:World) (H:Nat) (a:Pc):Prop where
 k0:W.heap[H]?=some (.cells zC 152)
 k1:W.heap[H+1]?=some (.cells (ik a) 152)
def CB.keep (h:CB W H a) (k:∀ j,H<=j->j<H+2->W'.heap[j]?=W.heap[j]?):CB W' H a:=⟨(k _ ω ω).trans h.k0,(k _ ω ω).trans h.k1⟩
def CB.lt (h:CB W H a):H+1<W.heap.size:=(ZC h.k1)
theorem CB.al (h:CB W H a) (ob:Obj):CB (W.alloc ob) H a:=h.keep (λj h1 h2=>Ze _ _ _ (η h.lt))
def CB.put (h:CB W H a) (b:Pc):CB (S9 W (H+1) b) H b:=⟨(vw _ _ _ ω).trans h.k0,fx _ h.k1⟩
def CB.fz (h:CB W H a) (o:Nat):W.frozen? ⟨H+1,o,none⟩=false/\W.frozen? ⟨H,o,none⟩=false:=⟨by simp[frozen?,h.k1],by simp[frozen?,h.k0]⟩
structure qY (sb:Nat) (w:World) (vb vf:Value) (W:World) (vb' vf':Value) (e:Ex) (a:Pc):Prop where
 at_:ch W sb vb' vf' e
 cb:CB W w.heap.size a
 gr:gj sb w vb vf W vb' vf'
 nw:∀ b,eJ sb vb' vf' b->(sb<=b/\b<w.heap.size)\/w.heap.size+2<=b
theorem qY.below {sb:Nat} (h:qY sb w vb vf W vb' vf' e a) (hb:Below W.heap.size W W'):qY sb w vb vf W' vb' vf' e a:=
 ⟨h.at_.below hb,h.cb.keep (λj h1 h2=>hb.block j (η h.cb.lt)),h.gr.below hb,h.nw⟩
def qY.call {sb:Nat} (h:qY sb w vb vf W vb' vf' e a) (hx:ch W' sb vb2 vf2 e2) (hg:gj sb W vb' vf' W' vb2 vf2):qY sb w vb vf W' vb2 vf2 e2 a:=by
 refine⟨hx,h.cb.keep (λj h1 h2=>hg.same (η h.cb.lt) (λq=>by rcases h.nw j q with q'|q'<;>omega)),h.gr.trans hg,λb hb=>?_⟩;rcases hg.new b hb with q|q
 .exact h.nw b q
 .exact .inr (η h.cb.lt)
theorem qY.put {sb:Nat} (h:qY sb w vb vf W vb' vf' e a) (b:Pc):qY sb w vb vf (S9 W (w.heap.size+1) b) vb' vf' e b:=
 ⟨h.at_.put (λq=>by rcases h.nw _ q with q'|q'<;>omega) b,h.cb.put b,h.gr.put ω b,h.nw⟩
def qY.fin {sb:Nat} (h:qY sb w vb vf W vb' vf' e a) (b:Pc):ch (S9 W w.heap.size b) sb vb' vf' e/\gj sb w vb vf (S9 W w.heap.size b) vb' vf':=
 ⟨h.at_.put (λq=>by rcases h.nw _ q with q'|q'<;>omega) b,h.gr.put zq b⟩
def B0 {sb:Nat} (h:jG w sb vb vf e n k) {cs:Array Value} (hc:cs=ik a):qY sb w vb vf ((w.alloc (.cells zC 152)).alloc (.cells cs 152)) vb vf e a:=by
 have hb:Below w.heap.size w ((w.alloc (.cells zC 152)).alloc (.cells cs 152)):=ZA.alloc χ _;refine⟨h.at_.below hb,⟨(Ze _ _ _ χ).trans (Za w _),?_⟩,gj.of_below hb,λb hb=>.inl (h.lt hb)⟩;have:=Za (w.alloc (.cells zC 152)) (.cells cs 152);rw[hc] at this ⊢
 simpa using this
def xK (ps:List aO) (hok:dW ps) (hp:∀ p∈ps,iM p):qh ps:=by
 intro w sb vb vf e n v h hR;obtain⟨va,vc,rfl,J⟩:=od hR;have HH:=zh h;have HR:=zh hR;have b4:Hid (∀ k,dE (n+eC (ps.take k)) (iw (ps.take k) eD e).2/\eE (n+eC (ps.take k)) (iw (ps.take k) eD e).1):=λk=>by
  have h1:eC (ps.take k)<=eC ps:=by
   have:=jF (ps.take k) (ps.drop k);rw[take_append_drop] at this;omega
  exact qt (ps.take k) (pG.2 (λp hp'=>pG.1 hok p (mem_of_mem_take hp'))) n e eD (η h.le) h.ok (eE.n n)
 have HT:=zh hok;have b1:=zh hp;unfold maxLen at J;obtain⟨N,hN⟩:=zx ps.length;rw[<-hN] at J ⊢;have HN:=zh hN;have HS:=zh h.sb;clear hR hN h hok hp
 go_enter func124,ntmps124
 go_wp2
 go_loopw [11] (λi wr=>∃(k:Nat) (vb' vf':Value),k<=N/\i=.int .i64 k/\qY sb w vb vf wr vb' vf' (iw (ps.take k) eD e).2 (iw (ps.take k) eD e).1) (λi _=>N-(intOf i).toNat)
 case atStart=>
  refine⟨0,vb,vf,ω,rfl,?_⟩;exact B0 HH rfl
 case round=>
  obtain⟨k,Q,M,hk,rfl,u⟩:=hrel;have y:=b4 k;have F:Hid (∀ hk:k<ps.length,iw (ps.take (k+1)) eD e=((iw (ps.take k) eD e).1.join (bp ps[k] (iw (ps.take k) eD e).2).1,(bp ps[k] (iw (ps.take k) eD e).2).2.join (iw (ps.take k) eD e).1 (bp ps[k] (iw (ps.take k) eD e).2).1)):=λhk=>by rw[Zl hk,xJ]
  have G:Hid (k=ps.length->iw ps eD e=((iw (ps.take k) eD e).1,(iw (ps.take k) eD e).2)):=λhk=>by rw[hk,take_length]
  obtain⟨A,hA⟩:=zx ((iw (ps.take k) eD e).1);obtain⟨E,hE⟩:=zx ((iw (ps.take k) eD e).2);rw[<-hA,<-hE] at u y F G;have f:=zh u;have K:=zh y;obtain⟨a0,a1,a2,a3,a4,a5,a6,a7,a8⟩:=bP u.cb.k1;obtain⟨z0,z1,z2,z3,z4,z5,z6,z7,z8⟩:=eX u.cb.k0;have zf:∀ o,wr.frozen? ⟨w.heap.size,o,none⟩=false:=λo=>(f.cb.fz o).2
  clear u y hA hE
  by_cases hlt:k<N
  .have b9:(k:Int)<N:=ω;have L:k<ps.length:=by have:=HN.out;omega
   have V:=HH.bl f.gr;obtain⟨g,s,b3,hg,c,Y⟩:=BV (tU HR V) (i:=k) L;subst b3;have d0:=c 0 ω;have d1:=c 1 ω;have d2:=c 2 ω;have d3:=c 3 ω;have d4:=c 4 ω;have d5:=c 5 ω;simp only[Sx.cj.cells,Nat.add_zero,getElem?_cons_zero,getElem?_cons_succ] at d0 d1 d2 d3 d4 d5;have Z:eC (ps.take k)+bJ ps[k]<=eC ps:=by
    have h1:=jF (ps.take (k+1)) (ps.drop (k+1));rw[take_append_drop,Zl L,jF,BX] at h1;omega
   have d:jG wr sb Q M E (n+eC (ps.take k)) (bJ ps[k]):=HH.on f.at_ f.gr K.1 (η HH.le);have j:=fK ps[k] (pG.1 HT _ (Zg _)) (n+eC (ps.take k)) E d.le d.ok;have C:Below wr.heap.size wr (wr.alloc (.cells #[.slice s.q0 s.q1 s.q2,.int .u64 s.y0,.int .u64 s.y1,.int .u64 s.y2,.int .u64 s.y3,.slice s.r0 s.r1 s.r2] 231)).drew:=ZA.drew;have x:=b1 ps[k] (Zg _) (wr.alloc (.cells #[.slice s.q0 s.q1 s.q2,.int .u64 s.y0,.int .u64 s.y1,.int .u64 s.y2,.int .u64 s.y3,.slice s.r0 s.r1 s.r2] 231)).drew sb Q M E (n+eC (ps.take k)) s (d.below C) (dK Y (C.mono (Nat.le_of_lt d.sb)));have t:=F L;obtain⟨X,hX⟩:=zx (bp ps[k] E);rw[<-hX] at x j t;have b7:=zh (f.below C);have P:=zh t;have I:=zh j;have b2:Hid (∀ w2 vb2 vf2,qY sb w vb vf w2 vb2 vf2 X.2 A->TabZ w2):=λw2 vb2 vf2 hr=>(HH.on hr.at_ hr.gr j.1 (k':=0) d.le).tz
   have b6:=zh d.le;have b5:=d.s1;have b8:=f.cb.lt;have aa:=λob=>bP (f.cb.al ob).k1
   clear c Y hX j d V t Z C F G;go_wp2
   go_region_with (first|(go_at_call 175;refine(mX w2 sb vb2 vf2 X.2 A X.1 (n+eC (ps.take k)+bJ ps[k]) (b2 _ _ _ D) b5 D.at_ b6 I.1 (K.2.mono ω) I.2).mono ?_;rintro r w3 ⟨rfl,T,U⟩;have O:=zh (D.call T U);obtain⟨f0,f1,f2,f3,f4,f5,f6,f7,f8⟩:=bP O.cb.k1;have ff:∀ o,w3.frozen? ⟨w.heap.size+1,o,none⟩=false:=(λo=>(O.cb.fz o).1);clear T U)|(go_at_call 176;refine x.mono ?_;rintro r w2 ⟨rfl,vb2,vf2,R,a9⟩;have D:=zh (b7.call R a9);obtain⟨e0,e1,e2,e3,e4,e5,e6,e7,e8⟩:=bP D.cb.k1;clear R a9))
   all_goals (
    obtain⟨W,hW⟩:=zx (S9 w3 (w.heap.size+1) (A.join X.1));have q:=hW;simp only[S9] at q;rw[<-q];have b0:Hid (qY sb w vb vf W vb2 vf2 (X.2.join A X.1) (A.join X.1)):=by rw[hW];exact O.put _
    clear hW q f0 f1 f2 f3 f4 f5 f6 f7 f8 ff;go_wp2
    go_roundw
    case rel=>exact⟨k+1,vb2,vf2,ω,π,by rw[P.out];exact b0⟩
    case measure=>simp[intOf]<;>omega)
  .have c0:¬(k:Int)<N:=ω;have t:=G (η HN.out);have P:=zh t;clear t F G;go_wp2
   obtain⟨W,hW⟩:=zx (S9 wr w.heap.size A);have q:=hW;simp only[S9] at q;rw[<-q];have hq:W.heap[w.heap.size]?=some (.cells (ik A) 152):=by rw[hW];exact fx _ f.cb.k0
   obtain⟨r0,r1,r2,r3,r4,r5,r6,r7,r8⟩:=bP hq;refine Zb (v:=pE A) (by simp[results,results124,go_sem,r0,r1,r2,r3,r4,r5,r6,r7,r8]) rfl ?_;rw[P.out];refine⟨rfl,Q,M,?_⟩;rw[hW];exact f.fin _
def qY.own {sb:Nat}{a b:Pc} (h:qY sb w vb vf W vb' vf' e a) (hx:cd (λk=>k=w.heap.size+1) W W') (hk:W'.heap[w.heap.size+1]?=some (.cells (ik b) 152)):qY sb w vb vf W' vb' vf' e b:=by
 have hl:=h.cb.lt;have hs:=h.gr.exc.size;refine⟨h.at_.keep (λj hj=>hx.block j (h.at_.lt hj).2 (λq=>by rcases h.nw j hj with q'|q'<;>omega)),⟨(hx.block _ ω ω).trans h.cb.k0,hk⟩,⟨⟨hx.os.trans h.gr.exc.os,hx.tape.trans h.gr.exc.tape,hx.output.trans h.gr.exc.output,Zc hs hx.size,λj hj hS=>(hx.block j ω ω).trans (h.gr.exc.block j hj hS)⟩,h.gr.new,λhsb o ho=>(cP (hx.block sb ω ω) o).trans (h.gr.cl hsb o ho)⟩,h.nw⟩
structure OB (W:World) (P:Nat) (x:Pc):Prop where
 k:W.heap[P]?=some (.cells (ik x) 152)
def qZ (cs:List (List aO)) (hok:aX cs) (hp:∀ c∈cs,qh c):gC cs:=by
 intro w sb vb vf e n v h hR;obtain⟨va,vc,rfl,V⟩:=iA hR;have HH:=zh h;have c1:=zh hR;have c3:Hid (∀ k,dE (n+aY (cs.take k)) (bF (cs.take k) fF e).2/\eE (n+aY (cs.take k)) (bF (cs.take k) fF e).1):=λk=>by
  have h1:aY (cs.take k)<=aY cs:=by
   have:=iQ (cs.take k) (cs.drop k);rw[take_append_drop] at this;omega
  exact lp (cs.take k) (jm.2 (λp hp'=>jm.1 hok p (mem_of_mem_take hp'))) n e fF (η h.le) h.ok (eE.zero n)
 have HT:=zh hok;have c0:=zh hp;unfold maxLen at V;obtain⟨N,hN⟩:=zx cs.length;rw[<-hN] at V ⊢;have HN:=zh hN;have HS:=zh h.sb;clear hR hN h hok hp
 go_enter func73,ntmps73
 go_wp2
 go_loopw [11] (λi wr=>∃(k:Nat) (vb' vf':Value),k<=N/\i=.int .i64 k/\qY sb w vb vf wr vb' vf' (bF (cs.take k) fF e).2 (bF (cs.take k) fF e).1) (λi _=>N-(intOf i).toNat)
 case atStart=>
  refine⟨0,vb,vf,ω,rfl,?_⟩;exact B0 HH rfl
 case round=>
  obtain⟨k,b3,b1,hk,rfl,d⟩:=hrel;have C:=c3 k;have T:Hid (∀ hk:k<cs.length,bF (cs.take (k+1)) fF e=((bF (cs.take k) fF e).1.alt (iw cs[k] eD (bF (cs.take k) fF e).2).1,(iw cs[k] eD (bF (cs.take k) fF e).2).2)):=λhk=>by rw[Zl hk,tY]
  have U:Hid (k=cs.length->bF cs fF e=((bF (cs.take k) fF e).1,(bF (cs.take k) fF e).2)):=λhk=>by rw[hk,take_length]
  obtain⟨A,hA⟩:=zx ((bF (cs.take k) fF e).1);obtain⟨E,hE⟩:=zx ((bF (cs.take k) fF e).2);rw[<-hA,<-hE] at d C T U
  by_cases hlt:k<N
  .have c4:(k:Int)<N:=ω;have b0:k<cs.length:=by have:=HN.out;omega
   have b6:=HH.bl d.gr;obtain⟨g,b,c,c2,hg,b2,b8⟩:=xA (gm c1 b6) (i:=k) b0;subst c2;have b7:aY (cs.take k)+eC cs[k]<=aY cs:=by
    have h1:=iQ (cs.take (k+1)) (cs.drop (k+1));rw[take_append_drop,Zl b0,iQ,xD] at h1;omega
   have f:jG wr sb b3 b1 E (n+aY (cs.take k)) (eC cs[k]):=HH.on d.at_ d.gr C.1 (η HH.le);have R:=qt cs[k] (jm.1 HT _ (Zg _)) (n+aY (cs.take k)) E eD f.le f.ok (eE.n _);have P:=c0 cs[k] (Zg _) wr sb b3 b1 E (n+aY (cs.take k)) _ f b8;have x:=T b0;have hX:=vy R.2 f.le;have Y:=vy (C.2.mono (by omega:_<=n+aY (cs.take k)+eC cs[k])) f.le;obtain⟨X,b4⟩:=zx (iw cs[k] eD E);rw[<-b4] at P R x hX;clear R f b6 b7 T U b4 C;obtain⟨M,hM⟩:=zx (cs[k].length);rw[<-hM] at P b2;clear b8 hM hE hA;obtain⟨⟨xf,xl,xe⟩,X2⟩:=X;obtain⟨af,al,ae⟩:=A;have hA:=Y;clear Y
   simp only at hX hA P x
   cases ae
   .have D:=zh d;have O:Hid (bF (cs.take (k+1)) fF e=(⟨af.or xf,al.or xl,xe⟩,X2)):=by show _=_;rw[x];simp[Pc.alt]
    clear x d;go_wp2_with (first|(go_at_call 125;refine(cK w4 (w.heap.size+1) 4 al xl hA.2 hX.2 (pF j.cb.k1)).mono ?_;rintro r w5 ⟨rfl,K,q⟩;have y:=zh (j.own q.exc (mW j.cb.k1 K q));have a9:Hid (OB w5 w2.heap.size ⟨xf,xl,xe⟩):=⟨(q.four.block _ (ZC F.k) ω).trans F.k⟩;clear HR HO a0 a1 a2 a3 a4 a5 a6 a7 a8 o0 o1 o2 o3 o4 o5 o6 o7 o8;have HR:=y;have HO:=a9;clear K q;obtain⟨o0,o1,o2,o3,o4,o5,o6,o7,o8⟩:=bP HO.k;obtain⟨a0,a1,a2,a3,a4,a5,a6,a7,a8⟩:=bP HR.cb.k1;simp only at a8 o8;have ff:∀ o,w5.frozen? ⟨w.heap.size+1,o,none⟩=false:=(λo=>(y.cb.fz o).1))|(go_at_call 125;obtain⟨w3,u⟩:=zx (w2.alloc (.cells (ik ⟨xf,xl,xe⟩) 152));have t:qY sb w vb vf w3 vb2 vf2 X2 ⟨af,al,false⟩:=(by rw[u];exact L.below ZA);have G:OB w3 w2.heap.size ⟨xf,xl,xe⟩:=⟨by rw[u];exact Za w2 _⟩;rw[<-u];refine(cK w3 (w.heap.size+1) 0 af xf hA.1 hX.1 (qS t.cb.k1)).mono ?_;rintro r w4 ⟨rfl,J,s⟩;have j:=zh (t.own s.exc (n_ t.cb.k1 J s));have F:Hid (OB w4 w2.heap.size ⟨xf,xl,xe⟩):=⟨(s.four.block _ (ZC G.k) ω).trans G.k⟩;have HR:=j;have HO:=F;clear u t G J s;obtain⟨o0,o1,o2,o3,o4,o5,o6,o7,o8⟩:=bP HO.k;obtain⟨a0,a1,a2,a3,a4,a5,a6,a7,a8⟩:=bP HR.cb.k1;simp only at a8 o8)|(go_at_call 124;refine P.mono ?_;rintro r w2 ⟨rfl,vb2,vf2,I,Q⟩;have L:=zh (D.call I Q);have b9:=L.cb.lt;clear I Q))
    have Z:Hid (qY sb w vb vf (w5.setCell ⟨w.heap.size+1,8,none⟩ (.bool xe)) vb2 vf2 X2 ⟨af.or xf,al.or xl,xe⟩):=y.own (iN rfl) ((ap y.cb.k1).trans χ)
    go_roundw
    case rel=>exact⟨k+1,vb2,vf2,ω,π,by rw[O.out];exact Z⟩
    case measure=>simp[intOf]<;>omega
   .have D:=zh d;have O:Hid (bF (cs.take (k+1)) fF e=(⟨af.or xf,al.or xl,true⟩,X2)):=by show _=_;rw[x];simp[Pc.alt]
    clear x d;go_wp2_with (first|(go_at_call 125;refine(cK w4 (w.heap.size+1) 4 al xl hA.2 hX.2 (pF j.cb.k1)).mono ?_;rintro r w5 ⟨rfl,K,q⟩;have y:=zh (j.own q.exc (mW j.cb.k1 K q));have a9:Hid (OB w5 w2.heap.size ⟨xf,xl,xe⟩):=⟨(q.four.block _ (ZC F.k) ω).trans F.k⟩;clear HR HO a0 a1 a2 a3 a4 a5 a6 a7 a8 o0 o1 o2 o3 o4 o5 o6 o7 o8;have HR:=y;have HO:=a9;clear K q;obtain⟨o0,o1,o2,o3,o4,o5,o6,o7,o8⟩:=bP HO.k;obtain⟨a0,a1,a2,a3,a4,a5,a6,a7,a8⟩:=bP HR.cb.k1;simp only at a8 o8;have ff:∀ o,w5.frozen? ⟨w.heap.size+1,o,none⟩=false:=(λo=>(y.cb.fz o).1))|(go_at_call 125;obtain⟨w3,u⟩:=zx (w2.alloc (.cells (ik ⟨xf,xl,xe⟩) 152));have t:qY sb w vb vf w3 vb2 vf2 X2 ⟨af,al,true⟩:=(by rw[u];exact L.below ZA);have G:OB w3 w2.heap.size ⟨xf,xl,xe⟩:=⟨by rw[u];exact Za w2 _⟩;rw[<-u];refine(cK w3 (w.heap.size+1) 0 af xf hA.1 hX.1 (qS t.cb.k1)).mono ?_;rintro r w4 ⟨rfl,J,s⟩;have j:=zh (t.own s.exc (n_ t.cb.k1 J s));have F:Hid (OB w4 w2.heap.size ⟨xf,xl,xe⟩):=⟨(s.four.block _ (ZC G.k) ω).trans G.k⟩;have HR:=j;have HO:=F;clear u t G J s;obtain⟨o0,o1,o2,o3,o4,o5,o6,o7,o8⟩:=bP HO.k;obtain⟨a0,a1,a2,a3,a4,a5,a6,a7,a8⟩:=bP HR.cb.k1;simp only at a8 o8)|(go_at_call 124;refine P.mono ?_;rintro r w2 ⟨rfl,vb2,vf2,I,Q⟩;have L:=zh (D.call I Q);have b9:=L.cb.lt;clear I Q))
    have Z:Hid (qY sb w vb vf (w5.setCell ⟨w.heap.size+1,8,none⟩ (.bool true)) vb2 vf2 X2 ⟨af.or xf,al.or xl,true⟩):=y.own (iN rfl) ((ap y.cb.k1).trans χ)
    go_roundw
    case rel=>exact⟨k+1,vb2,vf2,ω,π,by rw[O.out];exact Z⟩
    case measure=>simp[intOf]<;>omega
  .have c6:¬(k:Int)<N:=ω;have x:=U (η HN.out);have O:=zh x;have D:=zh d;obtain⟨a0,a1,a2,a3,a4,a5,a6,a7,a8⟩:=bP d.cb.k1;obtain⟨z0,z1,z2,z3,z4,z5,z6,z7,z8⟩:=eX d.cb.k0;have zf:∀ o,wr.frozen? ⟨w.heap.size,o,none⟩=false:=λo=>(D.cb.fz o).2
   clear x T U d C hA hE;go_wp2
   obtain⟨W,hW⟩:=zx (S9 wr w.heap.size A);have b5:=hW;simp only[S9] at b5;rw[<-b5];have hq:W.heap[w.heap.size]?=some (.cells (ik A) 152):=by rw[hW];exact fx _ D.cb.k0
   obtain⟨r0,r1,r2,r3,r4,r5,r6,r7,r8⟩:=bP hq;refine Zb (v:=pE A) (by simp[results,results73,go_sem,r0,r1,r2,r3,r4,r5,r6,r7,r8]) rfl ?_;rw[O.out];refine⟨rfl,b3,b1,?_⟩;rw[hW];exact D.fin _
structure TR (m:Nat) (sb:Nat) (w:World) (vb vf:Value) (W:World) (vb' vf':Value) (e:Ex):Prop where
 at_:ch W sb vb' vf' e
 gr:gj sb w vb vf W vb' vf'
 nw:∀ b,eJ sb vb' vf' b->(sb<=b/\b<w.heap.size)\/w.heap.size+m<=b
 sz:w.heap.size+m<=W.heap.size
def TR.new {m:Nat}{sb:Nat} (h:jG w sb vb vf e n k) (hb:Below w.heap.size w W) (hm:w.heap.size+m<=W.heap.size):TR m sb w vb vf W vb vf e:=
 ⟨h.at_.below hb,gj.of_below hb,λb hb=>.inl (h.lt hb),hm⟩
theorem TR.below {m:Nat}{sb:Nat} (h:TR m sb w vb vf W vb' vf' e) (hb:Below W.heap.size W W'):TR m sb w vb vf W' vb' vf' e:=
 ⟨h.at_.below hb,h.gr.below hb,h.nw,Zc h.sz hb.size⟩
def TR.call {m:Nat}{sb:Nat} (h:TR m sb w vb vf W vb' vf' e) (hx:ch W' sb vb2 vf2 e2) (hg:gj sb W vb' vf' W' vb2 vf2):TR m sb w vb vf W' vb2 vf2 e2:=by
 refine⟨hx,h.gr.trans hg,λb hb=>?_,Zc h.sz hg.exc.size⟩;rcases hg.new b hb with q|q
 .exact h.nw b q
 .exact .inr (η h.sz)
theorem TR.same {m:Nat}{sb:Nat} (h:TR m sb w vb vf W vb' vf' e) (hg:gj sb W vb' vf' W' vb2 vf2) {j:Nat} (h1:w.heap.size<=j) (h2:j<w.heap.size+m):W'.heap[j]?=W.heap[j]?:=
 hg.same (η h.sz) (λq=>by rcases h.nw j q with q'|q'<;>omega)
theorem TR.put {m:Nat}{sb:Nat} (h:TR m sb w vb vf W vb' vf' e) {q:Nat} (h1:w.heap.size<=q) (h2:q<w.heap.size+m) (p:Pc):TR m sb w vb vf (S9 W q p) vb' vf' e:=
 ⟨h.at_.put (λk=>by rcases h.nw q k with q'|q'<;>omega) p,h.gr.put h1 p,h.nw,by rw[BU];exact h.sz⟩
theorem TR.tz {m:Nat}{sb:Nat} (h:TR m sb w vb vf W vb' vf' e) (hb:jG w sb vb vf e0 n k):TabZ W:=
 hb.tz.keep (h.gr.same hb.tz.lt (λq=>by have:=(hb.lt q).1;have:=hb.s1;omega))
def TR.beg {m:Nat}{sb:Nat} (h:TR m sb w vb vf W vb' vf' e) (hb:jG w sb vb vf e0 n k) (ho:dE n' e) (hl:n'+k'<=64):jG W sb vb' vf' e n' k':=⟨h.tz hb,hb.s1,h.at_,ho,hl⟩
theorem TR.bl {m:Nat}{sb:Nat} (h:TR m sb w vb vf W vb' vf' e) (hb:jG w sb vb vf e0 n k):Below sb w W:=hb.bl h.gr
structure TB (W:World) (H:Nat) (s:Sx.cj) (z l m:Int):Prop where
 k0:W.heap[H]?=some (.cells #[.slice s.q0 s.q1 s.q2,.int .u64 s.y0,.int .u64 s.y1,.int .u64 s.y2,.int .u64 s.y3,.slice s.r0 s.r1 s.r2] 231)
 k1:W.heap[H+1]?=some (.cells #[.int .u8 z,.int .i64 l,.int .i64 m] 282)
 k2:W.heap[H+2]?=some (.cells zC 152)
def TB.keep {s:Sx.cj} (h:TB W H s z l m) (k:∀ j,H<=j->j<H+3->W'.heap[j]?=W.heap[j]?):TB W' H s z l m:=⟨(k _ ω ω).trans h.k0,(k _ ω ω).trans h.k1,(k _ ω ω).trans h.k2⟩
def TB.lt {s:Sx.cj} (h:TB W H s z l m):H+2<W.heap.size:=(ZC h.k2)
theorem TB.al {s:Sx.cj} (h:TB W H s z l m) (ob:Obj):TB (W.alloc ob) H s z l m:=h.keep (λj h1 h2=>Ze _ _ _ (η h.lt))
def TB.zf {s:Sx.cj} (h:TB W H s z l m) (o:Nat):W.frozen? ⟨H+2,o,none⟩=false:=by simp[frozen?,h.k2]
def dL {T:TypeId} (h:w.heap[b]?=some (.cells #[x0,x1,x2] T)):w.cell? ⟨b,0,none⟩=some x0/\w.cell? ⟨b,1,none⟩=some x1/\w.cell? ⟨b,2,none⟩=some x2:=by
 refine⟨?_,?_,?_⟩<;>simp[cell?,h]
abbrev tW (w:World) (s:Sx.cj) (z l m:Int):World:=((w.alloc (.cells #[.slice s.q0 s.q1 s.q2,.int .u64 s.y0,.int .u64 s.y1,.int .u64 s.y2,.int .u64 s.y3,.slice s.r0 s.r1 s.r2] 231)).alloc (.cells #[.int .u8 z,.int .i64 l,.int .i64 m] 282)).alloc (.cells zC 152)
def At (w:World) (s:Sx.cj) (z l m:Int):TB (tW w s z l m) w.heap.size s z l m/\Below w.heap.size w (tW w s z l m)/\(tW w s z l m).heap.size=w.heap.size+3:=by
 refine⟨⟨IG w _ _ _,KB w _ _ _,JM w _ _ _⟩,(ZA.alloc χ _).alloc σ _,χ⟩
structure IU (w w1:World) (sb:Nat) (vb vf:Value) (e:Ex) (n:Nat) (p:aO) (s:Sx.cj) (z l m:Int):Prop where
 ew:w1=tW w s z l m
 t1:TR 3 sb w vb vf w1 vb vf e
 b1:TB w1 w.heap.size s z l m
 le:n+bJ p<=64
 pt:Calls prog 176 #[.pointer (some ⟨sb,0,none⟩),s.val] w1 (gW sb w1 vb vf (bp p e))
 ok:dE (n+bJ p) (bp p e).2/\eE (n+bJ p) (bp p e).1
def KF (p:aO) (hok:iX p) (hp:iM p) (z l m:Int) (w:World) (sb:Nat) (vb vf:Value) (e:Ex) (n k:Nat) (s:Sx.cj) (h:jG w sb vb vf e n k) (hk:bJ p<=k) (hR:Sx.eY w (λg=>g<sb) p s.cells):∃ w1,IU w w1 sb vb vf e n p s z l m:=by
 obtain⟨t1,t2,t3⟩:=At w s z l m;have hb:=(h.less hk).below t2;exact⟨tW w s z l m,rfl,TR.new h t2 ω,t1,hb.le,hp _ sb vb vf e n s hb (dK hR (t2.mono (Nat.le_of_lt h.sb))),fK p hok n e hb.le hb.ok⟩
def Av (p:aO) (l m:Int) (w w1:World) (sb:Nat) (vb vf:Value) (e:Ex) (n:Nat) (s:Sx.cj) (h:jG w sb vb vf e n (bJ p)) (hpre:IU w w1 sb vb vf e n p s 42 l m) (x:Pc×Ex) (hx:x=((bp p e).1.may,(bp p e).2.join (bp p e).1 (bp p e).1)) :
  Calls prog 199 #[.pointer (some ⟨sb,0,none⟩),s.val,.agg #[.int .u8 42,.int .i64 l,.int .i64 m]] w (gW sb w vb vf x):=by
 have HH:=zh h;have HW:Hid (w1=((w.alloc (.cells #[.slice s.q0 s.q1 s.q2,.int .u64 s.y0,.int .u64 s.y1,.int .u64 s.y2,.int .u64 s.y3,.slice s.r0 s.r1 s.r2] 231)).alloc (.cells #[.int .u8 42,.int .i64 l,.int .i64 m] 282)).alloc (.cells zC 152)):=hpre.ew;have G:Hid (TR 3 sb w vb vf w1 vb vf e):=hpre.t1;have K:Hid (TB w1 w.heap.size s 42 l m):=hpre.b1;have J:Hid (n+bJ p<=64):=hpre.le;have c:=hpre.pt;have f:=hpre.ok;obtain⟨X,hX⟩:=zx (bp p e);rw[<-hX] at c f hx;have o:Hid (dE (n+bJ p) X.2/\eE (n+bJ p) X.1):=f;have I:Hid (x=(X.1.may,X.2.join X.1 X.1)):=hx;clear h hpre f hX hx
 go_enter func199,ntmps199
 go_wp2_with (first|(go_at_call 210;refine(lE w3 X.1).mono ?_;rintro r w4 ⟨rfl,A⟩;have M:Hid (TR 3 sb w vb vf w4 vb2 vf2 _):=N.below A;have y:Hid (TB w4 w.heap.size s 42 l m):=F.keep (λj h1 h2=>A.block j (η F.lt));clear A;obtain⟨z0,z1,z2,z3,z4,z5,z6,z7,z8⟩:=eX y.k2;have zf:=y.zf)|(go_at_call 211;refine(nZ w2 sb vb2 vf2 X.2 X.1 (n+bJ p) (g.tz HH) HH.s1 g.at_ J o.1 o.2).mono ?_;rintro r w3 ⟨rfl,D,t⟩;have N:Hid (TR 3 sb w vb vf w3 vb2 vf2 (X.2.join X.1 X.1)):=g.call D t;have F:Hid (TB w3 w.heap.size s 42 l m):=L.keep (λj h1 h2=>g.same t h1 h2);clear D t)|(go_at_call 176;rw[<-HW.out];refine c.mono ?_;rintro r w2 ⟨rfl,vb2,vf2,E,u⟩;have g:Hid (TR 3 sb w vb vf w2 vb2 vf2 X.2):=G.call E u;have L:Hid (TB w2 w.heap.size s 42 l m):=K.keep (λj h1 h2=>G.same u h1 h2);clear E u))
 obtain⟨W,hW⟩:=zx (S9 w4 (w.heap.size+1+1) X.1.may);have C:=hW;simp only[S9] at C;rw[<-C];have hq:W.heap[(w.heap.size+1+1)]?=some (.cells (ik X.1.may) 152):=(by rw[hW];exact fx _ y.k2);obtain⟨r0,r1,r2,r3,r4,r5,r6,r7,r8⟩:=bP hq;refine Zb (v:=pE X.1.may) (by simp[results,results199,go_sem,r0,r1,r2,r3,r4,r5,r6,r7,r8]) rfl ?_;rw[I.out];have d:=M.put (q:=(w.heap.size+1+1)) ω ω X.1.may;rw[<-hW] at d;exact⟨rfl,vb2,vf2,d.at_,d.gr⟩
def Aw (p:aO) (l m:Int) (w w1:World) (sb:Nat) (vb vf:Value) (e:Ex) (n:Nat) (s:Sx.cj) (h:jG w sb vb vf e n (bJ p)) (hpre:IU w w1 sb vb vf e n p s 43 l m) (x:Pc×Ex) (hx:x=((bp p e).1,(bp p e).2.join (bp p e).1 (bp p e).1)) :
  Calls prog 199 #[.pointer (some ⟨sb,0,none⟩),s.val,.agg #[.int .u8 43,.int .i64 l,.int .i64 m]] w (gW sb w vb vf x):=by
 have HH:=zh h;have HW:Hid (w1=((w.alloc (.cells #[.slice s.q0 s.q1 s.q2,.int .u64 s.y0,.int .u64 s.y1,.int .u64 s.y2,.int .u64 s.y3,.slice s.r0 s.r1 s.r2] 231)).alloc (.cells #[.int .u8 43,.int .i64 l,.int .i64 m] 282)).alloc (.cells zC 152)):=hpre.ew;have E:Hid (TR 3 sb w vb vf w1 vb vf e):=hpre.t1;have I:Hid (TB w1 w.heap.size s 43 l m):=hpre.b1;have G:Hid (n+bJ p<=64):=hpre.le;have c:=hpre.pt;have f:=hpre.ok;obtain⟨X,hX⟩:=zx (bp p e);rw[<-hX] at c f hx;have o:Hid (dE (n+bJ p) X.2/\eE (n+bJ p) X.1):=f;have F:Hid (x=(X.1,X.2.join X.1 X.1)):=hx;clear h hpre f hX hx
 go_enter func199,ntmps199
 go_wp2_with (first|((go_at_call 211;refine(nZ w2 sb vb2 vf2 X.2 X.1 (n+bJ p) (g.tz HH) HH.s1 g.at_ G o.1 o.2).mono ?_;rintro r w3 ⟨rfl,C,u⟩;have K:Hid (TR 3 sb w vb vf w3 vb2 vf2 (X.2.join X.1 X.1)):=g.call C u;have t:Hid (TB w3 w.heap.size s 43 l m):=J.keep (λj h1 h2=>g.same u h1 h2);clear C u);obtain⟨z0,z1,z2,z3,z4,z5,z6,z7,z8⟩:=eX t.k2;have zf:=t.zf)|(go_at_call 176;rw[<-HW.out];refine c.mono ?_;rintro r w2 ⟨rfl,vb2,vf2,D,y⟩;have g:Hid (TR 3 sb w vb vf w2 vb2 vf2 X.2):=E.call D y;have J:Hid (TB w2 w.heap.size s 43 l m):=I.keep (λj h1 h2=>E.same y h1 h2);clear D y))
 obtain⟨W,hW⟩:=zx (S9 w3 (w.heap.size+1+1) X.1);have A:=hW;simp only[S9] at A;rw[<-A];have hq:W.heap[(w.heap.size+1+1)]?=some (.cells (ik X.1) 152):=(by rw[hW];exact fx _ t.k2);obtain⟨r0,r1,r2,r3,r4,r5,r6,r7,r8⟩:=bP hq;refine Zb (v:=pE X.1) (by simp[results,results199,go_sem,r0,r1,r2,r3,r4,r5,r6,r7,r8]) rfl ?_;rw[F.out];have d:=K.put (q:=(w.heap.size+1+1)) ω ω X.1;rw[<-hW] at d;exact⟨rfl,vb2,vf2,d.at_,d.gr⟩
def DI (p:aO) (l m:Int) (w w1:World) (sb:Nat) (vb vf:Value) (e:Ex) (n:Nat) (s:Sx.cj) (h:jG w sb vb vf e n (bJ p)) (hpre:IU w w1 sb vb vf e n p s 63 l m) (x:Pc×Ex) (hx:x=((bp p e).1.may,(bp p e).2)) :
  Calls prog 199 #[.pointer (some ⟨sb,0,none⟩),s.val,.agg #[.int .u8 63,.int .i64 l,.int .i64 m]] w (gW sb w vb vf x):=by
 have HH:=zh h;have HW:Hid (w1=((w.alloc (.cells #[.slice s.q0 s.q1 s.q2,.int .u64 s.y0,.int .u64 s.y1,.int .u64 s.y2,.int .u64 s.y3,.slice s.r0 s.r1 s.r2] 231)).alloc (.cells #[.int .u8 63,.int .i64 l,.int .i64 m] 282)).alloc (.cells zC 152)):=hpre.ew;have y:Hid (TR 3 sb w vb vf w1 vb vf e):=hpre.t1;have E:Hid (TB w1 w.heap.size s 63 l m):=hpre.b1;have I:Hid (n+bJ p<=64):=hpre.le;have c:=hpre.pt;have f:=hpre.ok;obtain⟨X,hX⟩:=zx (bp p e);rw[<-hX] at c f hx;have A:Hid (x=(X.1.may,X.2)):=hx;clear h hpre f hX hx
 go_enter func199,ntmps199
 go_wp2_with (first|(go_at_call 210;refine(lE w2 X.1).mono ?_;rintro r w4 ⟨rfl,C⟩;have F:Hid (TR 3 sb w vb vf w4 vb2 vf2 _):=G.below C;have g:Hid (TB w4 w.heap.size s 63 l m):=u.keep (λj h1 h2=>C.block j (η u.lt));obtain⟨z0,z1,z2,z3,z4,z5,z6,z7,z8⟩:=eX g.k2;have zf:=g.zf)|(go_at_call 176;rw[<-HW.out];refine c.mono ?_;rintro r w2 ⟨rfl,vb2,vf2,D,t⟩;have G:Hid (TR 3 sb w vb vf w2 vb2 vf2 X.2):=y.call D t;have u:Hid (TB w2 w.heap.size s 63 l m):=E.keep (λj h1 h2=>y.same t h1 h2)))
 obtain⟨W,hW⟩:=zx (S9 w4 (w.heap.size+1+1) X.1.may);have o:=hW;simp only[S9] at o;rw[<-o];have hq:W.heap[(w.heap.size+1+1)]?=some (.cells (ik X.1.may) 152):=(by rw[hW];exact fx _ g.k2);obtain⟨r0,r1,r2,r3,r4,r5,r6,r7,r8⟩:=bP hq;refine Zb (v:=pE X.1.may) (by simp[results,results199,go_sem,r0,r1,r2,r3,r4,r5,r6,r7,r8]) rfl ?_;rw[A.out];have d:=F.put (q:=(w.heap.size+1+1)) ω ω X.1.may;rw[<-hW] at d;exact⟨rfl,vb2,vf2,d.at_,d.gr⟩
end Go.Proofs.YtbjabpodkaokjaaGreatDoor
