import Derived.Test.YtbjabpodkaokjaaGreatDoorCC22
set_option linter.all false
set_option maxHeartbeats 4000000
set_option maxRecDepth 100000
open List Nat Go.World Go.Proofs.Tryz
namespace Go.Proofs.YtbjabpodkaokjaaGreatDoor
open Go.RowKit
open Sx (bL RT Tr aV bQ)
variable {w:World}{lo n:Nat}{v:Value}{S:Nat->Bool}{N g sp:Nat}{O:Nat->Prop}{x:Rx}{m k q:Nat}{xs:List Value}{R M cap:Nat}{e':Bool}{p:Rp}{F L f l:Value}{us:List Value}{i:Nat}{W:World}
def GU (ts:List RT):∀(p:Rp) (x:Rx) (j:Nat) (hj:j<ts.length),lL (ts.take (j+1)) p x=(cE (lL (ts.take j) p x).1 (dY ts[j] (lL (ts.take j) p x).2).1,(dY ts[j] (lL (ts.take j) p x).2).2.beh (lL (ts.take j) p x).1 (dY ts[j] (lL (ts.take j) p x).2).1):=by
 induction ts with
 |nil=>intro p x j hj;simp at hj
 |cons t ts ih=>
  intro p x j hj
  cases j with
  |zero=>simp[lL]
  |succ j=>simp only[take_succ_cons,lL,getElem_cons_succ];exact ih _ _ j (by simpa using hj)
def GV (ts:List RT):∀(p:Rp) (x:Rx) (j:Nat) (hj:j<ts.length),mT (ts.take (j+1)) p x=(sG (mT (ts.take j) p x).1 (dY ts[j] (mT (ts.take j) p x).2).1,(dY ts[j] (mT (ts.take j) p x).2).2):=by
 induction ts with
 |nil=>intro p x j hj;simp at hj
 |cons t ts ih=>
  intro p x j hj
  cases j with
  |zero=>simp[mT]
  |succ j=>simp only[take_succ_cons,mT,getElem_cons_succ];exact ih _ _ j (by simpa using hj)
def un (ts:List RT):∀(j:Nat) (hj:j<ts.length),dt.csts (ts.take (j+1))=dt.csts (ts.take j)+(dt ts[j]+1):=by
 induction ts with
 |nil=>intro j hj;simp at hj
 |cons t ts ih=>
  intro j hj
  cases j with
  |zero=>simp[dt.csts]
  |succ j=>simp only[take_succ_cons,dt.csts,getElem_cons_succ];rw[ih j (by simpa using hj)];omega
def ur (ts:List RT) (j:Nat) (hj:j<ts.length):dt.csts (ts.take j)+(dt ts[j]+1)<=dt.csts ts:=by
 induction ts generalizing j with
 |nil=>simp at hj
 |cons t ts ih=>
  cases j with
  |zero=>simp[dt.csts]
  |succ j=>simp only[take_succ_cons,dt.csts,getElem_cons_succ];have:=ih j (by simpa using hj);omega
def ut (ts:List RT) (j:Nat) (hj:j<ts.length):bv (ts.take j)+bO ts[j]<=bv ts:=by
 induction ts generalizing j with
 |nil=>simp at hj
 |cons t ts ih=>
  cases j with
  |zero=>simp[bv]
  |succ j=>simp only[take_succ_cons,bv,getElem_cons_succ];have:=ih j (by simpa using hj);omega
def MF {K L N u v t:Nat} (ht:u+(v+1)<=t) (h:N+K*t<=L):N+K*u+K*v<=L/\N+K*u+K*v+K<=L/\N+K*(u+(v+1))=N+K*u+K*v+K:=by
 have h1:K*(u+(v+1))<=K*t:=mul_le_mul_left _ ht;exact MD (N:=N) (L:=L) ω
def yo {ts:List RT}{gs:Nat->Nat} (hS:Sv lo sp x n N w O) (hR:R≠0) (hsp:JT lo g R w) (hT:Kn lo w g 1 ts.length M cap gs) (hl:ts.length<=1000)
  (hk:∀(j:Nat) (hj:j<ts.length),Gw 47 lo (gs j) (dY ts[j]) (bO ts[j]) (dt ts[j]) (λw'=>Below lo w w')) (hnk:n+bv ts<=64) (hnc:N+4096*dt.csts ts<=800000000) :
  Calls prog 47 #[.pointer (some ⟨sp,0,none⟩),.pointer (some ⟨g,0,none⟩)] w λe w'=>∃ O' f' l',e=.returned (j_ (lL ts cU x).1.em f' l')/\Sv lo sp (lL ts cU x).2 (n+bv ts) (N+4096*dt.csts ts) w' O'/\Pv lo w' O' (n+bv ts) (bv ts) f' l' (lL ts cU x).1/\Fx lo w w' O O':=by
 have HS:Hid (Sv lo sp x n N w O):=hS;have d0:Hid (JT lo g R w):=hsp;obtain⟨L,hL⟩:∃ L,L=ts.length:=⟨_,rfl⟩
 rw[<-hL] at hT hl;have HL:Hid (L=ts.length):=hL;have HT:Hid (Kn lo w g 1 L M cap gs):=hT;have HK:Hid (∀(j:Nat) (hj:j<ts.length),Gw 47 lo (gs j) (dY ts[j]) (bO ts[j]) (dt ts[j]) (λw'=>Below lo w w')):=hk;have J:Hid (n+bv ts<=64):=hnk;have b8:Hid (N+4096*dt.csts ts<=800000000):=hnc;have f1:((R:Int)==0)=false:=by rw[beq_eq_false_iff_ne];omega
 have f4:L<=cap:=hT.lc;clear hS hsp hT hk hR hnk hnc hL
 go_enter func47,ntmps47
 go_upto_region 1 with(fail)
 obtain⟨W1,B,⟨c0,hB⟩,e2,U,b7,b3,b6,c7⟩:=dR HS.out false (.slice none 0 0) (.slice none 0 0);rw[<-c0,<-hB];clear c0 hB
 go_upto_region 2 with(go_at_call 46;refine(d0.out W1 b6.out).mono ?_;rintro e w2 ⟨rfl,d⟩;have d7:Hid (Below W1.heap.size W1 w2):=d;have t:Hid (Sv lo sp x n N w2 O):=U.out.below d;have C:Hid (Bx w2 O B false (.slice none 0 0) (.slice none 0 0)):=b7.out.below d;have G:Hid (Fx lo w w2 O O):=b3.out.low U.out.base d;clear d)
 obtain⟨u0,u1⟩:=(HT.out.low G.out.bl).facts
 go_upto_region 14 with(fail)
 clear u0 u1;obtain⟨W2,D,⟨b9,hD⟩,d,-,d2,-⟩:=dR t.out true (.slice none 0 0) (.slice none 0 0);rw[<-b9,<-hD];have f0:Hid (LW lo sp w O B D x n N 0 cU W2 O (.slice none 0 0) (.slice none 0 0)):=⟨t.out.below d,Pv.nil _ _ _ _ _ _,G.out.low t.out.base d,C.out.below d,d2⟩
 have b4:Hid (B<D):=by show _<_;rw[hD];exact C.out.lt
 clear b9 hD d;clear U b7 b3 b6 e2 d7 t C G;go_wp2
 go_loopw [8] (λi wq=>∃(j:Nat) (O':Nat->Prop) (f' l':Value),i=.int .i64 j/\j<=L/\LW lo sp w O B D (lL (ts.take j) cU x).2 (n+bv (ts.take j)) (N+4096*dt.csts (ts.take j)) (bv (ts.take j)) (lL (ts.take j) cU x).1 wq O' f' l') (λi _=>L-(intOf i).toNat)
 case atStart=>exact⟨0,O,_,_,rfl,Zk _,by simpa only [take_zero,lL,bv,dt.csts,Nat.mul_zero,Nat.add_zero] using f0.out⟩
 case round=>
  obtain⟨j,O',f',l',rfl,hj,hI⟩:=hrel;obtain⟨a1,n1,c1,a2,n2,c2,rfl,rfl⟩:=hI.v.shape;have c8:Hid (Kn lo wr g 1 L M cap gs):=HT.out.low hI.f.bl;obtain⟨u0,u1⟩:=c8.out.facts;have HI:Hid (LW lo sp w O B D (lL (ts.take j) cU x).2 (n+bv (ts.take j)) (N+4096*dt.csts (ts.take j)) (bv (ts.take j)) (lL (ts.take j) cU x).1 wr O' (.slice a1 n1 c1) (.slice a2 n2 c2)):=hI;clear hI;obtain⟨y0,y1,y2⟩:=HI.out.d.cells
  by_cases hlt:j<L
  .have c9:(j:Int)<L:=ω;have s:j<ts.length:=by rw[<-HL.out];exact hlt
   have uk:=c8.out.k j hlt;have e9:Hid (Below lo w wr.drew):=HI.out.f.bl.trans ((gn wr).mono HI.out.s.base);have h:Hid (LW lo sp w O B D (lL (ts.take j) cU x).2 (n+bv (ts.take j)) (N+4096*dt.csts (ts.take j)) (bv (ts.take j)) (lL (ts.take j) cU x).1 wr.drew O' (.slice a1 n1 c1) (.slice a2 n2 c2)):=HI.out.below (gn wr);have H:=GU ts cU x j s;have b1:=ut ts j s;have T:=nY ts j s;have u:=MF (ur ts j s) b8.out;have z:=un ts j s;have Y:=HK.out j s;obtain⟨n',b5⟩:∃ n',n'=n+bv (ts.take j):=⟨_,rfl⟩
   obtain⟨N',a7⟩:∃ N',N'=N+4096*dt.csts (ts.take j):=⟨_,rfl⟩
   obtain⟨m,hm⟩:∃ m,m=bv (ts.take j):=⟨_,rfl⟩
   obtain⟨f,hf⟩:∃ f,f=dY ts[j]:=⟨_,rfl⟩
   obtain⟨k,hk⟩:∃ k,k=bO ts[j]:=⟨_,rfl⟩
   obtain⟨c,hc⟩:∃ c,c=dt ts[j]:=⟨_,rfl⟩
   rw[<-hf,<-hk,<-hc] at Y;rw[<-hk] at b1 T;rw[<-hc] at u z;rw[<-hf] at H;have d1:Hid (Gw 47 lo (gs j) f k c (λw'=>Below lo w w')):=Y;have e3:Hid (n'+k<=64):=by show _<=_;have:=J.out;omega
   rw[<-a7] at u;have b0:Hid (N'+4096*c<=800000000):=u.1;have d9:Hid (m+k<=64):=by show _<=_;have:=J.out;omega
   have e4:Hid (n+bv (ts.take (j+1))=n'+k):=by show _=_;omega
   have e6:Hid (N+4096*dt.csts (ts.take (j+1))=N'+4096*c+4096):=by show _=_;rw[z];exact u.2.2
   have e1:Hid (bv (ts.take (j+1))=m+k):=by show _=_;omega
   rw[<-b5,<-a7,<-hm] at HI h;obtain⟨P,hP⟩:∃ P,P=(lL (ts.take j) cU x).1:=⟨_,rfl⟩
   obtain⟨X,hX⟩:∃ X,X=(lL (ts.take j) cU x).2:=⟨_,rfl⟩
   rw[<-hP] at y0;rw[<-hP,<-hX] at HI h H;have d5:Hid (lL (ts.take (j+1)) cU x=_):=H;clear b5 a7 hm hP hX b1 u T z hf hk hc Y H s
   go_upto_region 17 with(fail)
   go_region_with (first|(go_at_call 47;refine(d1.out wr.drew sp _ _ _ _ h.out.s e9.out e3.out b0.out).mono ?_;rintro e w3 ⟨O2,f2,l2,rfl,b2,Z,A⟩;obtain⟨a3,n3,c3,a4,n4,c4,rfl,rfl⟩:=Z.shape;have t:Hid (Sv lo sp (f X).2 (n'+k) (N'+4096*c) w3 O2):=b2;have d3:Hid (Pv lo w3 O2 (n'+k) k (.slice a3 n3 c3) (.slice a4 n4 c4) (f X).1):=Z;have C:Hid (Bx w3 O2 B false (.slice none 0 0) (.slice none 0 0)):=h.out.b.frame A;have a9:Hid (Bx w3 O2 D P.em (.slice a1 n1 c1) (.slice a2 n2 c2)):=h.out.d.frame A;have e0:Hid (Pv lo w3 O2 (n'+k) m (.slice a1 n1 c1) (.slice a2 n2 c2) P):=(h.out.v.frame A).mono (le_add_right _ _) zq;have G:Hid (Fx lo w w3 O O2):=h.out.f.trans A;obtain⟨y0,y1,y2⟩:=a9.out.cells;clear b2 Z A)|(go_at_call 89;refine(kP t.out e0.out d3.out d9.out b0.out).mono ?_;rintro e w4 ⟨O3,f3,l3,rfl,a8,V,I⟩;obtain⟨a5,n5,c5,a6,n6,c6,rfl,rfl⟩:=V.shape;have d6:Hid (Sv lo sp ((f X).2.beh P (f X).1) (n'+k) (N'+4096*c+4096) w4 O3):=a8;have d4:Hid (Pv lo w4 O3 (n'+k) (m+k) (.slice a5 n5 c5) (.slice a6 n6 c6) (cE P (f X).1)):=V;have d8:Hid (Bx w4 O3 B false (.slice none 0 0) (.slice none 0 0)):=C.out.frame I;have y:Hid (Bx w4 O3 D P.em (.slice a1 n1 c1) (.slice a2 n2 c2)):=a9.out.frame I;have e7:Hid (Fx lo w w4 O O3):=G.out.trans I;obtain⟨y0,y1,y2⟩:=y.out.cells;have yz:=y.out.fz;clear a8 V I))
   all_goals
    go_wp2
    go_roundw
    .refine⟨j+1,O3,.slice a5 n5 c5,.slice a6 n6 c6,π,ω,?_⟩;rw[d5.out,e4.out,e6.out,e1.out];exact⟨d6.out.put y.out.o _ _ _,d4.out.put y.out.h _ _ _,e7.out.put HS.out.base (by rw[<-c7.out];exact Nat.le_of_lt b4.out) _ _ _,d8.out.put (ne_of_lt b4.out) _ _ _,y.out.own _ _ _⟩
    .simp[intOf]<;>omega
  .obtain rfl:j=L:=ω;clear hlt hj;have c9:¬(j:Int)<j:=ω;rw[HL.out,take_length] at HI y0;obtain⟨x0,x1,x2⟩:=HI.out.b.cells;have xz:=HI.out.b.fz;obtain⟨P,hP⟩:∃ P,P=(lL ts cU x).1:=⟨_,rfl⟩
   have e5:Hid (P=(lL ts cU x).1):=hP;rw[<-hP] at y0;clear hP;go_wp2
   have HX:Hid (Bx wr O' B false (.slice none 0 0) (.slice none 0 0)):=HI.out.b
   (change bodyPost _ _ _ _ _ (d_ wr B (.bool P.em) (.slice a1 n1 c1) (.slice a2 n2 c2));obtain⟨g0,g1,g2⟩:=(HX.out.own P.em (.slice a1 n1 c1) (.slice a2 n2 c2)).cells;refine Zb (v:=j_ P.em (.slice a1 n1 c1) (.slice a2 n2 c2)) (by simp[results,results47,go_sem,g0,g1,g2]) rfl ?_)
   rw[e5.out];exact⟨O',_,_,rfl,HI.out.s.put HX.out.o _ _ _,HI.out.v.put HX.out.h _ _ _,HI.out.f.put HS.out.base (by rw[c7.out];exact zq) _ _ _⟩
section
variable {lo:Nat}{w:World}{O:Nat->Prop}{b:Nat}{e:Bool}{f l:Value}
theorem Bx.em (h:Bx w O b e f l) (e':Bool):Bx (w.setCell ⟨b,0,none⟩ (.bool e')) O b e' f l:=⟨by rw[ap h.h];rfl,h.o⟩
def Bx.fst (h:Bx w O b e f l) (f':Value):Bx (w.setCell ⟨b,1,none⟩ f') O b e f' l:=⟨by rw[ap h.h];rfl,h.o⟩
def Bx.lst (h:Bx w O b e f l) (l':Value):Bx (w.setCell ⟨b,2,none⟩ l') O b e f l':=⟨by rw[ap h.h];rfl,h.o⟩
def IL.set (h:Bx w O b e f l) {k:List Nat} (g:IL lo w v k) (o:Nat) (u:Value):IL lo (w.setCell ⟨b,o,none⟩ u) v k:=g.keep (λj q=>by
 obtain⟨c,q⟩:=az g.o q
 exact ah _ _ _ _ (aU q h.h Zr))
end
structure AI (lo sp:Nat) (w:World) (O:Nat->Prop) (B D E:Nat) (X:Rx) (n N m k:Nat) (p r:Rp) (F L y z:Value) (wq:World) (O':Nat->Prop):Prop where
 s:Sv lo sp X n N wq O'
 v:Pv lo wq O' n m F L p
 q:Pv lo wq O' n k y z r
 f:Fx lo w wq O O'
 b:Bx wq O' B false (.slice none 0 0) (.slice none 0 0)
 e:Bx wq O' E r.em y z
structure AD (lo:Nat) (w:World) (B D E:Nat):Prop where
 l:lo<=w.heap.size
 b:w.heap.size<=B
 d:B<D
 e:D<E
section
variable {lo sp:Nat}{w:World}{O:Nat->Prop}{B D E:Nat}{X:Rx}{n N m k:Nat}{p q:Rp}{e:Bool}{F L f l:Value}{wq wr:World}{O':Nat->Prop}
theorem AI.below (h:AI lo sp w O B D E X n N m k p q F L f l wq O') (g:Below wq.heap.size wq wr):AI lo sp w O B D E X n N m k p q F L f l wr O':=
 ⟨h.s.below g,h.v.below g,h.q.below g,h.f.low h.s.base g,h.b.below g,h.e.below g⟩
theorem AI.set (h:AI lo sp w O B D E X n N m k p q F L f l wq O') (hd:AD lo w B D E) {F' L':Value} (hD:Bx wq O' D e' F' L') (o:Nat) (u:Value):AI lo sp w O B D E X n N m k p q F L f l (wq.setCell ⟨D,o,none⟩ u) O':=
 ⟨h.s.set hD.o _ _,h.v.set hD.h _ _,h.q.set hD.h _ _,h.f.set hd.l (ξ hd.b hd.d) _ _,h.b.set (ne_of_lt hd.d) _ _,h.e.set (Nat.ne_of_gt hd.e) _ _⟩
end
theorem Pv.alt {p q:Rp}{F L f l v1 v2:Value} (h:Pv lo w O n m F L p) (g:Pv lo w O n k f l q) (h1:IL lo w v1 (p.first++q.first)) (h2:IL lo w v2 (p.last++q.last)) (o1:∀ b,v1.ownBlock=some b->¬ O b) (o2:∀ b,v2.ownBlock=some b->¬ O b):Pv lo w O n (m+k) v1 v2 (sG p q):=
 ⟨⟨h1,h2,o1,o2⟩,h.b.alt g.b,by have:=h.lf;have:=g.lf;simp only[sG,length_append];omega,by have:=h.ll;have:=g.ll;simp only[sG,length_append];omega⟩
def DZ {ts:List RT}{gs:Nat->Nat} (hS:Sv lo sp x n N w O) (hR:R≠0) (hsp:JT lo g R w) (hT:Kn lo w g 2 ts.length M cap gs) (hl:ts.length<=1000)
  (hk:∀(j:Nat) (hj:j<ts.length),Gw 47 lo (gs j) (dY ts[j]) (bO ts[j]) (dt ts[j]) (λw'=>Below lo w w')) (hnk:n+bv ts<=64) (hnc:N+4096*dt.csts ts<=800000000) :
  Calls prog 47 #[.pointer (some ⟨sp,0,none⟩),.pointer (some ⟨g,0,none⟩)] w λe w'=>∃ O' f' l',e=.returned (j_ (mT ts sj x).1.em f' l')/\Sv lo sp (mT ts sj x).2 (n+bv ts) (N+4096*dt.csts ts) w' O'/\Pv lo w' O' (n+bv ts) (bv ts) f' l' (mT ts sj x).1/\Fx lo w w' O O':=by
 have HS:Hid (Sv lo sp x n N w O):=hS;have g6:Hid (JT lo g R w):=hsp;obtain⟨L,hL⟩:=zx ts.length;rw[<-hL] at hT hl;have HL:Hid (L=ts.length):=hL;have HT:Hid (Kn lo w g 2 L M cap gs):=hT;have HK:Hid (∀(j:Nat) (hj:j<ts.length),Gw 47 lo (gs j) (dY ts[j]) (bO ts[j]) (dt ts[j]) (λw'=>Below lo w w')):=hk;have b5:Hid (n+bv ts<=64):=hnk;have e9:Hid (N+4096*dt.csts ts<=800000000):=hnc;have i4:((R:Int)==0)=false:=by rw[beq_eq_false_iff_ne];omega
 have i5:L<=cap:=hT.lc;clear hS hsp hT hk hR hnk hnc hL
 go_enter func47,ntmps47
 go_upto_region 1 with(fail)
 obtain⟨W1,B,⟨f1,hB⟩,h6,b9,e7,e2,e6,f6⟩:=dR HS.out false (.slice none 0 0) (.slice none 0 0);rw[<-f1,<-hB];clear f1 hB
 go_upto_region 2 with(go_at_call 46;refine(g6.out W1 e6.out).mono ?_;rintro e w2 ⟨rfl,d⟩;have h3:Hid (Below W1.heap.size W1 w2):=d;have h:Hid (Sv lo sp x n N w2 O):=b9.out.below d;have I:Hid (Bx w2 O B false (.slice none 0 0) (.slice none 0 0)):=e7.out.below d;have J:Hid (Fx lo w w2 O O):=e2.out.low b9.out.base d;clear d)
 obtain⟨u0,u1⟩:=(HT.out.low J.out.bl).facts
 go_upto_region 20 with(fail)
 clear u0 u1;obtain⟨W2,D,⟨f0,hD⟩,d,-,g8,-⟩:=dR h.out false (.slice none 0 0) (.slice none 0 0);rw[<-f0,<-hD];have i3:Hid (LW lo sp w O B D x n N 0 sj W2 O (.slice none 0 0) (.slice none 0 0)):=⟨h.out.below d,Pv.nil _ _ _ _ _ _,J.out.low h.out.base d,I.out.below d,g8⟩
 have g9:Hid (B<D):=by show _<_;rw[hD];exact I.out.lt
 clear f0 hD d;clear b9 e7 e2 e6 h6 h3 h I J;go_wp2
 go_loopw [10] (λi wq=>∃(j:Nat) (O':Nat->Prop) (f' l':Value),i=.int .i64 j/\j<=L/\LW lo sp w O B D (mT (ts.take j) sj x).2 (n+bv (ts.take j)) (N+4096*dt.csts (ts.take j)) (bv (ts.take j)) (mT (ts.take j) sj x).1 wq O' f' l') (λi _=>L-(intOf i).toNat)
 case atStart=>exact⟨0,O,_,_,rfl,Zk _,by simpa only [take_zero,mT,bv,dt.csts,Nat.mul_zero,Nat.add_zero] using i3.out⟩
 case round=>
  obtain⟨j,O',f',l',rfl,hj,hI⟩:=hrel;obtain⟨a1,n1,c1,a2,n2,c2,rfl,rfl⟩:=hI.v.shape;have f7:Hid (Kn lo wr g 2 L M cap gs):=HT.out.low hI.f.bl;obtain⟨u0,u1⟩:=f7.out.facts;have HI:Hid (LW lo sp w O B D (mT (ts.take j) sj x).2 (n+bv (ts.take j)) (N+4096*dt.csts (ts.take j)) (bv (ts.take j)) (mT (ts.take j) sj x).1 wr O' (.slice a1 n1 c1) (.slice a2 n2 c2)):=hI;clear hI
  by_cases hlt:j<L
  .have f8:(j:Int)<L:=ω;have y:j<ts.length:=by rw[<-HL.out];exact hlt
   have uk:=f7.out.k j hlt;have g3:Hid (Below lo w wr):=HI.out.f.bl;have b0:=GV ts sj x j y;have e0:=ut ts j y;have b6:=nY ts j y;have T:=MF (ur ts j y) e9.out;have V:=un ts j y;have c8:=HK.out j y;obtain⟨n',e4⟩:=zx (n+bv (ts.take j));obtain⟨N',d5⟩:=zx (N+4096*dt.csts (ts.take j));obtain⟨m,hm⟩:=zx (bv (ts.take j));obtain⟨f,hf⟩:=zx (dY ts[j]);obtain⟨k,hk⟩:=zx (bO ts[j]);obtain⟨c,hc⟩:=zx (dt ts[j]);rw[<-hf,<-hk,<-hc] at c8;rw[<-hk] at e0 b6;rw[<-hc] at T V;rw[<-hf] at b0;have g7:Hid (Gw 47 lo (gs j) f k c (λw'=>Below lo w w')):=c8;have h7:Hid (n'+k<=64):=by show _<=_;have:=b5.out;omega
   rw[<-d5] at T;have g5:Hid (N'+4096*c<=800000000):=T.1;have f3:Hid (m+k<=64):=by show _<=_;have:=b5.out;omega
   have h8:Hid (n+bv (ts.take (j+1))=n'+k):=by show _=_;omega
   have i2:Hid (N+4096*dt.csts (ts.take (j+1))=N'+4096*c+4096):=by show _=_;rw[V];exact T.2.2
   have h4:Hid (bv (ts.take (j+1))=m+k):=by show _=_;omega
   rw[<-e4,<-d5,<-hm] at HI;obtain⟨P,hP⟩:=zx ((mT (ts.take j) sj x).1);obtain⟨X,hX⟩:=zx ((mT (ts.take j) sj x).2);rw[<-hP,<-hX] at HI b0;have h0:Hid (mT (ts.take (j+1)) sj x=_):=b0;clear e4 d5 hm hP hX e0 T b6 V hf hk hc c8 b0 y
   go_upto_region 24 with(go_at_call 47;refine(g7.out wr sp _ _ _ _ HI.out.s g3.out h7.out g5.out).mono ?_;rintro e w3 ⟨O2,f2,l2,rfl,e1,d0,Z⟩;obtain⟨a3,n3,c3,a4,n4,c4,rfl,rfl⟩:=d0.shape;have h:Hid (Sv lo sp (f X).2 (n'+k) (N'+4096*c) w3 O2):=e1;have c0:Hid (Pv lo w3 O2 (n'+k) k (.slice a3 n3 c3) (.slice a4 n4 c4) (f X).1):=d0;have I:Hid (Bx w3 O2 B false (.slice none 0 0) (.slice none 0 0)):=HI.out.b.frame Z;have b8:Hid (Bx w3 O2 D P.em (.slice a1 n1 c1) (.slice a2 n2 c2)):=HI.out.d.frame Z;have f5:Hid (Pv lo w3 O2 (n'+k) m (.slice a1 n1 c1) (.slice a2 n2 c2) P):=(HI.out.v.frame Z).mono (le_add_right _ _) zq;have J:Hid (Fx lo w w3 O O2):=HI.out.f.trans Z;clear e1 d0 Z)
   clear u0 u1 uk;obtain⟨Y,hY⟩:=zx ((f X).1);have h1:Hid ((f X).1=Y):=hY.symm;rw[<-hY] at c0;rw[<-hY];obtain⟨W5,E,⟨f4,hE⟩,A,-,h5,-⟩:=dR h.out (Y.em) (.slice a3 n3 c3) (.slice a4 n4 c4);rw[<-f4,<-hE];have d1:Hid (Bx W5 O2 E Y.em (.slice a3 n3 c3) (.slice a4 n4 c4)):=h5;have d7:Hid (AD lo w B D E):=⟨HS.out.base,by rw[f6.out];exact zq,g9.out,by rw[hE];exact b8.out.lt⟩
   have G:Hid (AI lo sp w O B D E (f X).2 (n'+k) (N'+4096*c) m k P Y (.slice a1 n1 c1) (.slice a2 n2 c2) (.slice a3 n3 c3) (.slice a4 n4 c4) W5 O2):=⟨h.out.below A,f5.out.below A,c0.out.below A,J.out.low h.out.base A,I.out.below A,d1.out⟩
   have a7:Hid (Bx W5 O2 D P.em (.slice a1 n1 c1) (.slice a2 n2 c2)):=b8.out.below A;clear f4 hE A hY h c0 I b8 f5 J HI g3;have i1:Hid (P.first.length+Y.first.length<=100000000):=by show _<=_;have:=G.out.v.lf;have:=G.out.q.lf;have:=f3.out;omega
   have h2:Hid (P.last.length+Y.last.length<=100000000):=by show _<=_;have:=G.out.v.ll;have:=G.out.q.ll;have:=f3.out;omega
   obtain⟨y0,y1,y2⟩:=a7.out.cells;obtain⟨z0,z1,z2⟩:=d1.out.cells;have yz:=a7.out.fz;obtain⟨ep,d3⟩:=zx P.em;obtain⟨ey,d6⟩:=zx Y.em;obtain⟨ee,b4⟩:=zx ((ep||ey));have i0:Hid (ee=(P.em||Y.em)):=by show _=_;rw[<-d3,<-d6];exact b4
   rw[<-d3] at y0;rw[<-d6] at z0;clear d3 d6;have u:Hid (AI lo sp w O B D E (f X).2 (n'+k) (N'+4096*c) m k P Y (.slice a1 n1 c1) (.slice a2 n2 c2) (.slice a3 n3 c3) (.slice a4 n4 c4) (W5.setCell ⟨D,0,none⟩ (.bool ee)) O2):=by
    have q:=G.out.set d7.out a7.out 0 (.bool ee);exact⟨q.s,q.v,q.q,q.f,q.b,q.e⟩
   have b2:Hid (Bx (W5.setCell ⟨D,0,none⟩ (.bool ee)) O2 D ee (.slice a1 n1 c1) (.slice a2 n2 c2)):=a7.out.em ee;obtain⟨W6,a9⟩:=zx (W5.setCell ⟨D,0,none⟩ (.bool ee));rw[<-a9] at u b2
   cases ep
   all_goals
    simp only[Bool.true_or,Bool.false_or] at b4;rw[b4] at a9
    go_upto_region 25 with(fail)
    rw[<-a9];clear y0 y1 y2 z0 z1 z2 yz a9 b4 G a7 d1;obtain⟨y0,y1,y2⟩:=b2.out.cells;obtain⟨z0,z1,z2⟩:=u.out.e.cells
    go_upto_region 26 with(go_at_call 90;refine(jD u.out.v.pc.f u.out.q.pc.f u.out.s.base i1.out).mono ?_;rintro e w7 ⟨v1,rfl,c7,d9,d8⟩;obtain⟨a5,n5,c5,rfl⟩:=c7.shape;have f9:Hid (AI lo sp w O B D E (f X).2 (n'+k) (N'+4096*c) m k P Y (.slice a1 n1 c1) (.slice a2 n2 c2) (.slice a3 n3 c3) (.slice a4 n4 c4) w7 O2):=u.out.below d8;have H:Hid (Bx w7 O2 D ee (.slice a1 n1 c1) (.slice a2 n2 c2)):=b2.out.below d8;have d4:Hid (IL lo w7 (.slice a5 n5 c5) (P.first++Y.first)/\∀ b,(Value.slice a5 n5 c5).ownBlock=some b->¬ O2 b):=⟨c7,λb eb q=>by have:=d9 b eb;have:=(u.out.s.lt q).2;omega⟩;obtain⟨y0,y1,y2⟩:=H.out.cells;have yz:=H.out.fz;clear c7 d9 d8)
    have s:Hid (AI lo sp w O B D E (f X).2 (n'+k) (N'+4096*c) m k P Y (.slice a1 n1 c1) (.slice a2 n2 c2) (.slice a3 n3 c3) (.slice a4 n4 c4) (w7.setCell ⟨D,1,none⟩ (.slice a5 n5 c5)) O2):=f9.out.set d7.out H.out 1 _;have b1:Hid (Bx (w7.setCell ⟨D,1,none⟩ (.slice a5 n5 c5)) O2 D ee (.slice a5 n5 c5) (.slice a2 n2 c2)):=H.out.fst _;have C:Hid (IL lo (w7.setCell ⟨D,1,none⟩ (.slice a5 n5 c5)) (.slice a5 n5 c5) (P.first++Y.first)/\∀ b,(Value.slice a5 n5 c5).ownBlock=some b->¬ O2 b):=⟨IL.set H.out d4.out.1 1 _,d4.out.2⟩
    obtain⟨W8,d2⟩:=zx (w7.setCell ⟨D,1,none⟩ (.slice a5 n5 c5));rw[<-d2] at s b1 C;rw[<-d2];clear y0 y1 y2 z0 z1 z2 yz d2 f9 H d4 u b2;obtain⟨y0,y1,y2⟩:=b1.out.cells;obtain⟨z0,z1,z2⟩:=s.out.e.cells
    go_upto_region 22 with(go_at_call 90;refine(jD s.out.v.pc.l s.out.q.pc.l s.out.s.base h2.out).mono ?_;rintro e w9 ⟨v2,rfl,c9,g4,b3⟩;obtain⟨a6,n6,c6,rfl⟩:=c9.shape;have e3:Hid (AI lo sp w O B D E (f X).2 (n'+k) (N'+4096*c) m k P Y (.slice a1 n1 c1) (.slice a2 n2 c2) (.slice a3 n3 c3) (.slice a4 n4 c4) w9 O2):=s.out.below b3;have z:Hid (Bx w9 O2 D ee (.slice a5 n5 c5) (.slice a2 n2 c2)):=b1.out.below b3;have a8:Hid (IL lo w9 (.slice a5 n5 c5) (P.first++Y.first)/\∀ b,(Value.slice a5 n5 c5).ownBlock=some b->¬ O2 b):=⟨C.out.1.below b3,C.out.2⟩;have U:Hid (IL lo w9 (.slice a6 n6 c6) (P.last++Y.last)/\∀ b,(Value.slice a6 n6 c6).ownBlock=some b->¬ O2 b):=⟨c9,λb eb q=>by have:=g4 b eb;have:=(s.out.s.lt q).2;omega⟩;obtain⟨y0,y1,y2⟩:=z.out.cells;have yz:=z.out.fz;clear c9 g4 b3)
    have t:Hid (AI lo sp w O B D E (f X).2 (n'+k) (N'+4096*c) m k P Y (.slice a1 n1 c1) (.slice a2 n2 c2) (.slice a3 n3 c3) (.slice a4 n4 c4) (w9.setCell ⟨D,2,none⟩ (.slice a6 n6 c6)) O2):=e3.out.set d7.out z.out 2 _;have b7:Hid (Bx (w9.setCell ⟨D,2,none⟩ (.slice a6 n6 c6)) O2 D ee (.slice a5 n5 c5) (.slice a6 n6 c6)):=z.out.lst _;have e5:Hid (Pv lo (w9.setCell ⟨D,2,none⟩ (.slice a6 n6 c6)) O2 (n'+k) (m+k) (.slice a5 n5 c5) (.slice a6 n6 c6) (sG P Y)):=t.out.v.alt t.out.q (IL.set z.out a8.out.1 2 _) (IL.set z.out U.out.1 2 _) a8.out.2 U.out.2;clear y0 y1 y2 z0 z1 z2 yz s b1 C e3 z a8 U;go_wp2
    go_roundw
    .refine⟨j+1,O2,.slice a5 n5 c5,.slice a6 n6 c6,π,ω,?_⟩;rw[h0.out,h8.out,i2.out,h4.out,h1.out];exact⟨t.out.s.more ω,e5.out,t.out.f,t.out.b,by rw[i0.out] at b7;exact b7.out⟩
    .simp[intOf]<;>omega
  .obtain rfl:j=L:=ω;clear hlt hj;have f8:¬(j:Int)<j:=ω;rw[HL.out,take_length] at HI;obtain⟨y0,y1,y2⟩:=HI.out.d.cells;obtain⟨x0,x1,x2⟩:=HI.out.b.cells;have xz:=HI.out.b.fz;obtain⟨P,hP⟩:=zx ((mT ts sj x).1);have h9:Hid (P=(mT ts sj x).1):=hP;rw[<-hP] at y0;clear hP;go_wp2
   have HX:Hid (Bx wr O' B false (.slice none 0 0) (.slice none 0 0)):=HI.out.b
   (change bodyPost _ _ _ _ _ (d_ wr B (.bool P.em) (.slice a1 n1 c1) (.slice a2 n2 c2));obtain⟨g0,g1,g2⟩:=(HX.out.own P.em (.slice a1 n1 c1) (.slice a2 n2 c2)).cells;refine Zb (v:=j_ P.em (.slice a1 n1 c1) (.slice a2 n2 c2)) (by simp[results,results47,go_sem,g0,g1,g2]) rfl ?_)
   rw[h9.out];exact⟨O',_,_,rfl,HI.out.s.put HX.out.o _ _ _,HI.out.v.put HX.out.h _ _ _,HI.out.f.put HS.out.base (by rw[f6.out];exact zq) _ _ _⟩
open Go.RowKit
open Sx (bL RT Tr aV bQ)
section
variable {lo:Nat}{w w1 w2:World}{sp:Nat}{x:Rx}{vs vf vs' vf':Value}{us:List Value}{S:Nat->Bool}
def GW (h:im lo w sp x vs vf us) (hlo:lo<=w.heap.size) (hb:Below w.heap.size w w1) (ho:w2.ownsRow lo 184 256 vs' (x.sets.length+1) (x.sets.flatMap bL++bL S)) (hg:w1.grownBy w2 vs.ownBlock) (hv:vs'.ownBlock=vs.ownBlock\/vs'.ownBlock=some w1.heap.size) :
  w2.cell? ⟨sp,0,none⟩=some vs/\w2.frozen? ⟨sp,0,none⟩=false/\im lo (w2.setCell ⟨sp,0,none⟩ vs') sp ⟨x.sets++[S],x.fol⟩ vs' vf us/\Fx lo w (w2.setCell ⟨sp,0,none⟩ vs') (MB sp vs vf us) (MB sp vs' vf us):=by
 have z:=hb.size;have hk:∀ b,b<w.heap.size->vs.ownBlock≠some b->w2.heap[b]?=w.heap[b]?:=λb q ne=>(hg.block b ω (λe=>ne e.symm)).trans (hb.block b q)
 have s:=(ZC h.h)
 have y:w2.heap[sp]?=w.heap[sp]?:=hk sp s (λe=>by
  obtain⟨cs,q⟩:=az h.s e
  exact aU h.h q Zr rfl)
 have c:=y.trans h.h;have u:∀ b,vs'.ownBlock=some b->b≠sp:=λb e=>by
  obtain⟨cs,q⟩:=az ho e;exact aU q c Zr
 have d:∀ b,vf.ownBlock=some b->(w2.setCell ⟨sp,0,none⟩ vs').heap[b]?=w.heap[b]?:=λb e=>by
  obtain⟨cs,q⟩:=az h.f e;rw[ah _ _ _ _ (aU q h.h Zr)]
  exact hk b (h.f.lt b e).2 (λe2=>by
   obtain⟨t,q2⟩:=az h.s e2
   exact aU q q2 Zr rfl)
 have j:∀ i (hi:i<us.length) b,us[i].ownBlock=some b->(w2.setCell ⟨sp,0,none⟩ vs').heap[b]?=w.heap[b]?:=λi hi b e=>by
  obtain⟨cs,q⟩:=az (h.u i hi).o e;rw[ah _ _ _ _ (aU q h.h Zr)]
  exact hk b ((h.u i hi).lt e).2 (λe2=>by
   obtain⟨t,q2⟩:=az h.s e2
   exact aU q q2 Zr rfl)
 refine⟨by simp[cell?,c],by simp[frozen?,c],⟨?_,h.ls,?_,ak h.f d,λi hi=>(h.u i hi).keep (j i hi),h.d⟩,?_,λb q1 q2=>?_,λb q=>?_⟩
 .rw[ap c];rfl
 .simp only[flatMap_append,flatMap_cons,flatMap_nil,append_nil,length_append,length_cons,length_nil,Nat.zero_add];exact ak ho (λb e=>ah _ _ _ _ (u b e))
 .exact((hb.mono hlo).trans (dQ hg (λb e=>(h.s.lt b e).1) ω)).setCell (p:=⟨sp,0,none⟩) h.ls _
 .rw[ah _ _ _ _ (λe=>q2 (.inl e))];exact hk b q1 (λe=>q2 (.inr (.inl e)))
 .rcases q with q|q|q|q
  .exact .inl (.inl q)
  .rcases hv with e|e
   .rw[e] at q;exact .inl (.inr (.inl q))
   .rw[e] at q;injection q with q;exact .inr ω
  .exact .inl (.inr (.inr (.inl q)))
  .exact .inl (.inr (.inr (.inr q)))
def GX (h:im lo w sp x vs vf us) (hlo:lo<=w.heap.size) (hb:Below w.heap.size w w1) (ho:w2.ownsRow lo 40 1 vf' (x.fol.length+1) (us++[.slice none 0 0])) (hg:w1.grownBy w2 vf.ownBlock) (hv:vf'.ownBlock=vf.ownBlock\/vf'.ownBlock=some w1.heap.size) :
  w2.cell? ⟨sp,1,none⟩=some vf/\w2.frozen? ⟨sp,1,none⟩=false/\im lo (w2.setCell ⟨sp,1,none⟩ vf') sp ⟨x.sets,x.fol++[[]]⟩ vs vf' (us++[.slice none 0 0])/\Fx lo w (w2.setCell ⟨sp,1,none⟩ vf') (MB sp vs vf us) (MB sp vs vf' (us++[.slice none 0 0])):=by
 have I:=hb.size;have z:=h.ul;have hk:∀ b,b<w.heap.size->vf.ownBlock≠some b->w2.heap[b]?=w.heap[b]?:=λb q ne=>(hg.block b ω (λe=>ne e.symm)).trans (hb.block b q)
 have t:=(ZC h.h)
 have G:w2.heap[sp]?=w.heap[sp]?:=hk sp t (λe=>by
  obtain⟨cs,q⟩:=az h.f e
  exact aU h.h q Zr rfl)
 have c:=G.trans h.h;have C:∀ b,vf'.ownBlock=some b->b≠sp:=λb e=>by
  obtain⟨cs,q⟩:=az ho e;exact aU q c Zr
 have s:∀ b,vs.ownBlock=some b->(w2.setCell ⟨sp,1,none⟩ vf').heap[b]?=w.heap[b]?:=λb e=>by
  obtain⟨cs,q⟩:=az h.s e;rw[ah _ _ _ _ (aU q h.h Zr)]
  exact hk b (h.s.lt b e).2 (λe2=>by
   obtain⟨y,q2⟩:=az h.f e2
   exact aU q q2 Zr rfl)
 have d:∀ i (hi:i<us.length) b,us[i].ownBlock=some b->(w2.setCell ⟨sp,1,none⟩ vf').heap[b]?=w.heap[b]?:=λi hi b e=>by
  obtain⟨cs,q⟩:=az (h.u i hi).o e;rw[ah _ _ _ _ (aU q h.h Zr)]
  exact hk b ((h.u i hi).lt e).2 (λe2=>by
   obtain⟨y,q2⟩:=az h.f e2
   exact aU q q2 Zr rfl)
 refine⟨by simp[cell?,c],by simp[frozen?,c],⟨?_,h.ls,ak h.s s,?_,λi hi=>?_,λi j hi hj b e1 e2=>?_⟩,?_,λb q1 q2=>?_,λb q=>?_⟩
 .rw[ap c];rfl
 .simp only[length_append,length_cons,length_nil,Nat.zero_add];exact ak ho (λb e=>ah _ _ _ _ (C b e))
 .rcases Nat.lt_or_ge i us.length with q|q
  .rw[Zp q];have e:(x.fol++[[]]).getD i []=x.fol.getD i []:=by
    simp only[getD_eq_getElem?_getD];rw[Zo ω]
   rw[e];exact(h.u i q).keep (d i q)
  .have A:i=us.length:=by simp at hi;omega
   subst A;have e:(x.fol++[[]]).getD us.length []=[]:=by
    simp only[getD_eq_getElem?_getD];rw[getElem?_append_right ω];simp[z]
   simp only[getElem_concat_length,e];exact IL.nil _ _
 .have no:∀(a:Nat) (ha:a<(us++[Value.slice none 0 0]).length),(us++[Value.slice none 0 0])[a].ownBlock=some b->∃ q:a<us.length,us[a].ownBlock=some b:=λa ha e=>by
   rcases Nat.lt_or_ge a us.length with q|q
   .rw[Zp q] at e;exact⟨q,e⟩
   .have H:a=us.length:=by simp at ha;omega
    subst H;simp only[getElem_concat_length] at e
    cases e
  obtain⟨q1,r1⟩:=no i hi e1;obtain⟨q2,r2⟩:=no j hj e2;exact h.d i j q1 q2 b r1 r2
 .exact((hb.mono hlo).trans (dQ hg (λb e=>(h.f.lt b e).1) ω)).setCell (p:=⟨sp,1,none⟩) h.ls _
 .rw[ah _ _ _ _ (λe=>q2 (.inl e))];exact hk b q1 (λe=>q2 (.inr (.inr (.inl e))))
 .rcases q with q|q|q|⟨u,hu,q⟩
  .exact .inl (.inl q)
  .exact .inl (.inr (.inl q))
  .rcases hv with e|e
   .rw[e] at q;exact .inl (.inr (.inr (.inl q)))
   .rw[e] at q;injection q with q;exact .inr ω
  .rcases mem_append.1 hu with hu|hu
   .exact .inl (.inr (.inr (.inr ⟨u,hu,q⟩)))
   .simp at hu;subst hu;cases q
end
section
variable {ops:Array Oper}{o:Oper}{a:Act}{w:World}{K:Act->World->Prop}{Q:Exit->Act->World->Prop}{E:Prop}
def nh (hg:o.guard=none) (y:Operand) (hop:o.op=.load 184 y)  (hy:a.eval y=.pointer (some ⟨g,k,none⟩)) (hc:w.rangeAt g k (bL S)) (hK:K (a.put o.dst (.agg (bL S).toArray)) w) :
  if Region.wanted o (yielded ops a.tmps)=true then Oper.wp prog o a w K Q else E:=by
 have hw:Region.wanted o (yielded ops a.tmps)=true:=by simp[Region.wanted,hg]
 rw[Zi hw];exact wp_load_mid _ y hop g k hy (bL S) _ hc underlying184 rfl (by rw[Sx.dc];exact Sx.fU) hK
def ja (hg:o.guard=none) (y:Operand) (hop:o.op=.buildSlice 104 1 #[(0,y)])  (hy:a.eval y=.agg (bL S).toArray) (hK:K (a.put o.dst (.slice (some ⟨w.heap.size,0,none⟩) 1 1)) (w.alloc (.cells (bL S).toArray 184))) :
  if Region.wanted o (yielded ops a.tmps)=true then Oper.wp prog o a w K Q else E:=by
 have hw:Region.wanted o (yielded ops a.tmps)=true:=by simp[Region.wanted,hg]
 rw[Zi hw];obtain⟨i,hi,hz⟩:∃ i,prog.info? 184=some i/\(i.zero,i.size,i.bytes)=(some (.agg (Sx.bA λ_=>false)),256,256):=by
  have:=Sx.Tryz.infoA
  cases hq:prog.info? 184 with
  |none=>rw[hq] at this;cases this
  |some i=>rw[hq] at this;exact⟨i,rfl,by simpa using this⟩
 injection hz with hz0 hz1;injection hz1 with hz1 hz2;refine wp_buildSlice _ _ 1 #[(0,y)] hop (bL S).toArray i _ underlying104 hi hz0 (by rw[hz1];decide) (by rw[hz1];decide) ?_ hK;rw[hz1];have hf:=Great.fill_whole (s:=256) Zr [Value.agg (bL S).toArray] ((Array.range (1*256)).map ((Value.agg (Sx.bA λ_=>false)).cells[·%(Value.agg (Sx.bA λ_=>false)).cells.size]!)) (λv hv=>by simp at hv;subst hv;simp[Value.cells,Sx.dc]) χ
 simpa [hy,Value.cells] using hf
def yp:∃ i,prog.info? 184=some i/\i.zero=some (.agg (Sx.bA λ_=>false))/\i.size=256/\i.bytes=256:=by
 have:=Sx.Tryz.infoA
 cases hq:prog.info? 184 with
 |none=>rw[hq] at this;cases this
 |some i=>
  rw[hq] at this;simp only[Option.map_some,Option.some.injEq,Prod.mk.injEq] at this;exact⟨i,rfl,this⟩
def Jb {T:TypeId} (h:w.heap[q]?=some (.cells (bL S).toArray T)):∀ j u,(bL S)[j]?=some u->w.cell? ((⟨q,0,none⟩:Addr).add j)=some u:=λj u hj=>by
 rw[Addr.add_mid];simp only[cell?,h,Nat.zero_add]
 simpa using hj
def Jc (S:Nat->Bool):∀ u∈bL S,u.oneCell'=true:=λu hu=>by
 unfold bL at hu;obtain⟨i,_,rfl⟩:=mem_map.1 hu;rfl
def rN (hg:o.guard=none) (s x:Operand) (hop:o.op=Op.call {callee:=Callee.builtin Builtin.append,args:=#[s,x],argTypes:=#[104,104]})  (hs:a.eval s=v) (hx:a.eval x=.slice (some ⟨q,0,none⟩) 1 1) (hown:w.ownsRow lo 184 256 v n xs) (hq:w.heap[q]?=some (.cells (bL S).toArray 184)) (hn:n<=1000) (hlo:lo<=w.heap.size)
  (hK:∀ v' w',w'.ownsRow lo 184 256 v' (n+1) (xs++bL S)->w.grownBy w' v.ownBlock->(v'.ownBlock=v.ownBlock\/v'.ownBlock=some w.heap.size)->K (a.put o.dst v') w') :
  if Region.wanted o (yielded ops a.tmps)=true then Oper.wp prog o a w K Q else E:=by
 obtain⟨i,hi,d,h,c⟩:=yp;exact Sx.jQ hg s x _ hop lo _ i _ 256 256 underlying104 hi d h c (by simp[Value.cells,Sx.cC]) Zr v n xs hs hown ⟨q,0,none⟩ 1 1 (bL S) hx (by rw[Sx.dc]) (Jb hq) (Jc S) Zs ω hlo hK
def Tryz.infoF:(prog.info? 40).map (λi=>(i.zero,i.size,i.bytes))=some (some (.slice none 0 0),1,24):=κ
def ni {rest:List Oper} (hg:o.guard=none) (s x:Operand) (hop:o.op=Op.call {callee:=Callee.builtin Builtin.append,args:=#[s,x],argTypes:=#[31,31]})  (hs:a.eval s=v) (hx:a.eval x=.slice (some ⟨q,0,none⟩) 1 1) (hown:w.ownsRow lo 40 1 v n us) (hq:w.heap[q]?=some (.cells #[.slice none 0 0] 40)) (hn:n<=1000) (hlo:lo<=w.heap.size)
  (h:∀ v' w',w'.ownsRow lo 40 1 v' (n+1) (us++[.slice none 0 0])->w.grownBy w' v.ownBlock->(v'.ownBlock=v.ownBlock\/v'.ownBlock=some w.heap.size)->wpList prog ops Q rest (a.put o.dst v') w') :
  wpList prog ops Q (o::rest) a w:=by
 obtain⟨i,hi,d,t,c⟩:=info_parts Tryz.infoF;refine wpList_append_own_at w hg s x _ hop lo _ i _ 1 24 underlying31 hi d t c rfl Zr v n us hs hown ⟨q,0,none⟩ 1 1 [.slice none 0 0] hx rfl (λj u hj=>?_) (λu hu=>?_) Zs ω hlo (λv' w' h1 h2 _ h4=>h v' w' h1 h2 h4)
 .match j,hj with
  |0,hj=>simp at hj;subst hj;simp[Addr.add,cell?,hq]
 .simp at hu;subst hu;rfl
end
open Go.RowKit
open Sx (bL RT Tr aV bQ)
theorem IL.one (hlo:lo<=w.heap.size):IL lo (w.alloc (.cells #[.int .i64 i] 3)) (.slice (some ⟨w.heap.size,0,none⟩) 1 1) [i]:=
 ⟨⟨χ,.inr ⟨w.heap.size,1,#[.int .i64 i],χ,hlo,Za w _,χ,by unfold maxLen;decide,χ,by simp[lO]⟩⟩,λh=>by cases h⟩
def b_ {base:Nat}{e:TypeId}{size:Nat} (h:w.ownsRow base e size v n xs):∃ A cap,v=.slice A n cap/\n<=cap:=by
 rcases h.2 with⟨h1,h2⟩|⟨g,cap,c,hv,_,_,q,_⟩
 .simp_all
 .grind
def KP {vs vf:Value} (h:im lo w sp ⟨x.sets++[S],x.fol++[[]]⟩ vs vf us) (hx:Xn n x) (hN:∀ i,(x.fol.getD i []).length<=N) (hlo:lo<=w.heap.size):Sv lo sp (gM S x).2 (n+1) N w (MB sp vs vf us):=by
 refine⟨vs,vf,us,rfl,h,⟨by simp[gM,hx.s],by simp[gM,hx.f]⟩,λi=>?_,hlo⟩;simp only[gM];rcases Nat.lt_or_ge i x.fol.length with q|q
 .have:=hN i;simp only[getD_eq_getElem?_getD] at this ⊢;rw[Zo q];exact this
 .grind
def D0 {W9:World}{O9:Nat->Prop}{m B:Nat} (hs:Sv lo sp (gM S x).2 (n+1) N W9 O9) (hX:Bx W9 O9 B false (.slice none 0 0) (.slice none 0 0)) (hF:Fx lo w W9 O O9) (hlo:lo<=w.heap.size) (hB:w.heap.size<=B) (hm:m=x.sets.length) (hn:m=n)  (eF:F=.slice (some ⟨W9.heap.size,0,none⟩) 1 1) (eL:L=.slice (some ⟨W9.heap.size+1,0,none⟩) 1 1) (eW:W=((d_ W9 B (.bool false) F L).alloc (.cells #[.int .i64 m] 3)).alloc (.cells #[.int .i64 m] 3)) :
  Bx W O9 B false F L/\Sv lo sp (gM S x).2 (n+1) N W O9/\Pv lo W O9 (n+1) 1 F L (gM S x).1/\Fx lo w W O O9:=by
 obtain⟨P,hP⟩:=zx (d_ W9 B (.bool false) F L);have c:P.heap.size=W9.heap.size:=by rw[hP];exact tZ _ _ _ _ _
 rw[<-hP] at eW;have d:lo<=P.heap.size:=by rw[c];exact hs.base
 have hb:Below P.heap.size P W:=by rw[eW];exact ZA.alloc χ _
 have h:lo<=(P.alloc (.cells #[.int .i64 m] 3)).heap.size:=σ;have k1:Sv lo sp (gM S x).2 (n+1) N P O9:=by rw[hP];exact hs.put hX.o _ _ _
 have k2:Bx P O9 B false F L:=by rw[hP];exact hX.own _ _ _
 have k3:Fx lo w P O O9:=by rw[hP];exact hF.put hlo hB _ _ _
 have i1:IL lo W F [m]:=by
  rw[eF,eW,<-c];exact(IL.one d).below ZA
 have i2:IL lo W L [m]:=by
  have:=IL.one (i:=m) h;rw[eL,eW,<-c]
  simpa using this
 refine⟨k2.below hb,k1.below hb,⟨⟨?_,?_,?_,?_⟩,?_,by simp[gM],by simp[gM]⟩,k3.low d hb⟩
 .grind [gM]
 .grind [gM]
 .intro b e q;rw[eF] at e;have e:some W9.heap.size=some b:=e;injection e with e;have:=(hs.lt q).2;omega
 .intro b e q;rw[eL] at e;have e:some (W9.heap.size+1)=some b:=e;injection e with e;have:=(hs.lt q).2;omega
 .refine⟨λi hi=>?_,λi hi=>?_⟩<;>(simp only[gM,mem_singleton] at hi;omega)
def gz {α:Type}{a:α}{l:List α}:(a::l).toArray[0]?=some a:=rfl
def gs {α:Type}{a:α}{l:List α}{o:Option α} (h:l.toArray[i]?=o):(a::l).toArray[i+1]?=o:=by rw[<-h];simp
def yq (hS:Sv lo sp x n N w O) (hn:n<=64) (hsp:JT lo g 1 w) (hT:∀ w',Below lo w w'->w'.cell? ⟨g,0,none⟩=some (.int .i64 0)/\w'.rangeAt g 1 (bL S)) :
  Calls prog 47 #[.pointer (some ⟨sp,0,none⟩),.pointer (some ⟨g,0,none⟩)] w λe w'=>∃ O' f' l',e=.returned (j_ false f' l')/\Sv lo sp (gM S x).2 (n+1) N w' O'/\Pv lo w' O' (n+1) 1 f' l' (gM S x).1/\Fx lo w w' O O':=by
 have HS:=zh hS;have b4:=zh hsp;have HT:=zh hT;clear hS hsp hT
 go_enter func47,ntmps47
 go_upto_region 1 with(fail)
 obtain⟨W1,B,⟨b0,hB⟩,d1,a3,c3,b5,c0,c7⟩:=dR HS false (.slice none 0 0) (.slice none 0 0);rw[<-b0,<-hB];clear b0 hB
 go_upto_region 2 with(go_at_call 46;refine(b4 W1 c0).mono ?_;rintro e w2 ⟨rfl,u⟩;have d0:=zh u;have b8:=zh (a3.below u);have c8:=zh (c3.below u);have b2:=zh (b5.low a3.base u);clear u)
 obtain⟨vs,vf,us,hO,d,Y,hN,a7⟩:=b8;obtain⟨A,cap,H,a4⟩:=b_ d.s;obtain⟨m,hm⟩:=zx x.sets.length;have c9:m<=64:=by rw[hm,Y.s];exact hn
 rw[<-hm] at H;have x0:w2.cell? ⟨sp,0,none⟩=some (.slice A m cap):=by rw[<-H];simp[cell?,d.h]
 have x1:w2.cell? ⟨sp,1,none⟩=some vf:=by simp[cell?,d.h]
 obtain⟨u0,T⟩:=HT w2 b2.bl;have d2:=zh T;have a9:=zh T;have j:Hid (im lo w2 sp x vs vf us/\Xn n x/\(∀ i,(x.fol.getD i []).length<=N)/\lo<=w2.heap.size/\O=MB sp vs vf us/\vs=.slice A m cap/\m=x.sets.length):=⟨d,Y,hN,a7,hO,H,hm⟩
 clear d Y hN a7 hO H hm T a4
 go_upto_region 7 with(fail)
 obtain⟨W4,I⟩:=zx (w2.drew.alloc (.cells (bL S).toArray 184));obtain⟨G,hG⟩:=zx w2.drew.heap.size;have C:Below w2.heap.size w2 W4:=by rw[I];exact(gn w2).alloc zq _
 have c1:Hid (W4.ownsRow lo 184 256 (.slice A m cap) m (x.sets.flatMap bL)):=by
  obtain⟨h1,h2,h3,h4,h5,h6,h7⟩:=j;show ownsRow _ _ _ _ _ _ _;have:=ak h1.s (w':=W4) (λb e=>C.block b (h1.s.lt b e).2);rw[<-h7,h6] at this;exact this
 have c2:Hid (W4.heap[G]?=some (.cells (bL S).toArray 184)):=by show _=_;rw[I,hG];exact Za _ _
 have HM:Hid (m<=1000):=by show _<=_;omega
 have b3:=zh (Zc j.2.2.2.1 C.size);have b7:Hid (∀ v' w5,w5.ownsRow lo 184 256 v' (m+1) (x.sets.flatMap bL++bL S)->W4.grownBy w5 (Value.slice A m cap).ownBlock->(v'.ownBlock=(Value.slice A m cap).ownBlock\/v'.ownBlock=some W4.heap.size)->w5.cell? ⟨sp,0,none⟩=some vs/\w5.frozen? ⟨sp,0,none⟩=false/\im lo (w5.setCell ⟨sp,0,none⟩ v') sp ⟨x.sets++[S],x.fol⟩ v' vf us/\Fx lo w2 (w5.setCell ⟨sp,0,none⟩ v') (MB sp vs vf us) (MB sp v' vf us)):=λv' w5 h1 h2 h3=>by
  obtain⟨g1,g2,g3,g4,g5,g6,g7⟩:=j;rw[g7] at h1;rw[<-g6] at h2 h3;exact GW g1 g4 C h1 h2 h3
 have x4:W4.cell? ⟨sp,0,none⟩=some (.slice A m cap):=by rw[<-x0];exact cell_of_block (C.block sp (aF x0)) 0
 have U:=zh I;have Z:=zh hG;have a8:Hid (Bx w2 (MB sp vs vf us) B false (.slice none 0 0) (.slice none 0 0)):=by rw[<-j.out.2.2.2.2.1];exact c8
 have b1:Hid (Fx lo w w2 O (MB sp vs vf us)):=by rw[<-j.out.2.2.2.2.1];exact b2
 clear C I hG;refine wp_region_any κ ?_;change wpAny _ _ _ _ _ _ _ (World.drew _)
 (refine wpAny_take (i:=0) (v:=?_) (gz) κ κ κ (λ_ _ _ h=>h) (Or.inl ⟨by rfl,?_⟩) ?_;rotate_left;(focus ((intro w;go_simp)<;>(try with_reducible rfl)));(try simp only[Act.put,setIfInBounds_toArray,set_cons_zero,set_cons_succ]))
 (refine wpAny_take (i:=1) (v:=?_) (gs (gz)) κ κ κ (λ_ _ _ h=>h) (Or.inl ⟨by rfl,?_⟩) ?_;rotate_left;(focus ((intro w;go_simp)<;>(try with_reducible rfl)));(try simp only[Act.put,setIfInBounds_toArray,set_cons_zero,set_cons_succ]))
 (refine wpAny_take (i:=2) (v:=?_) (gs (gs (gz))) κ κ κ (λ_ _ _ h=>h) (Or.inl ⟨by rfl,?_⟩) ?_;rotate_left;(focus ((intro w;go_simp)<;>(try with_reducible rfl)));(try simp only[Act.put,setIfInBounds_toArray,set_cons_zero,set_cons_succ]))
 (refine wpAny_take (i:=3) (v:=?_) (gs (gs (gs (gz)))) κ κ κ (λ_ _ _ h=>h) (Or.inl ⟨by rfl,?_⟩) ?_;rotate_left;(focus ((intro w;go_simp)<;>(try with_reducible rfl)));(try simp only[Act.put,setIfInBounds_toArray,set_cons_zero,set_cons_succ]))
 (refine wpAny_take (i:=5) (v:=?_) (gs (gs (gs (gs (gs (gz)))))) κ κ κ (λ_ _ _ h=>h) (Or.inl ⟨by rfl,?_⟩) ?_;rotate_left;(focus ((intro w;go_simp)<;>(try with_reducible rfl)));(try simp only[Act.put,setIfInBounds_toArray,set_cons_zero,set_cons_succ]))
 (refine wpAny_take (i:=6) (v:=?_) (gs (gs (gs (gs (gs (gs (gz))))))) κ κ κ (λ_ _ _ h=>h) (Or.inl ⟨by rfl,?_⟩) ?_;rotate_left;(focus ((intro w;go_simp)<;>(try with_reducible rfl)));(try simp only[Act.put,setIfInBounds_toArray,set_cons_zero,set_cons_succ]))
 (refine wpAny_take (i:=7) (v:=?_) (gs (gs (gs (gs (gs (gs (gs (gz)))))))) κ κ κ (λ_ _ _ h=>h) (Or.inl ⟨by rfl,?_⟩) ?_;rotate_left;(focus ((intro w;go_simp)<;>(try with_reducible rfl)));(try simp only[Act.put,setIfInBounds_toArray,set_cons_zero,set_cons_succ]))
 refine wpAny_ready (rs:=[4,8]) κ χ ?_;refine AllReady.cons (i:=4) (rs:=[8]) (o:=_) (gs (gs (gs (gs (gz))))) ?_ ?_
 focus
  intro K hK
  (go_simp;refine hK _ _ ?_;clear hK K;(try simp only[Act.put,setIfInBounds_toArray,set_cons_zero,set_cons_succ]))
  (refine wpAny_ready (rs:=[8]) κ χ ?_;refine AllReady.cons (i:=8) (rs:=[]) (o:=_) (gs (gs (gs (gs (gs (gs (gs (gs (gz))))))))) ?_ AllReady.nil;intro K hK)
  (refine nh (g:=g) (k:=1) (S:=S) rfl (.tmp 35) rfl rfl a9 ?_;refine hK _ _ ?_;clear hK K;(try simp only[Act.put,setIfInBounds_toArray,set_cons_zero,set_cons_succ]))
  (refine wpAny_ready (rs:=[9]) κ χ ?_;refine AllReady.cons (i:=9) (rs:=[]) (o:=_) (gs (gs (gs (gs (gs (gs (gs (gs (gs (gz)))))))))) ?_ AllReady.nil;intro K hK)
  (refine ja rfl (.tmp 36) rfl (S:=S) rfl ?_;rw[<-U.out,<-Z.out];refine hK _ _ ?_;clear hK K;(try simp only[Act.put,setIfInBounds_toArray,set_cons_zero,set_cons_succ]))
 rotate_left
 refine AllReady.cons (i:=8) (rs:=[]) (o:=_) (gs (gs (gs (gs (gs (gs (gs (gs (gz))))))))) ?_ AllReady.nil;intro K hK
 (refine nh (g:=g) (k:=1) (S:=S) rfl (.tmp 35) rfl rfl a9 ?_;refine hK _ _ ?_;clear hK K;(try simp only[Act.put,setIfInBounds_toArray,set_cons_zero,set_cons_succ]))
 refine wpAny_ready (rs:=[4,9]) κ χ ?_;refine AllReady.cons (i:=4) (rs:=[9]) (o:=_) (gs (gs (gs (gs (gz))))) ?_ ?_
 focus
  intro K hK
  (go_simp;refine hK _ _ ?_;clear hK K;(try simp only[Act.put,setIfInBounds_toArray,set_cons_zero,set_cons_succ]))
  (refine wpAny_ready (rs:=[9]) κ χ ?_;refine AllReady.cons (i:=9) (rs:=[]) (o:=_) (gs (gs (gs (gs (gs (gs (gs (gs (gs (gz)))))))))) ?_ AllReady.nil;intro K hK)
  (refine ja rfl (.tmp 36) rfl (S:=S) rfl ?_;rw[<-U.out,<-Z.out];refine hK _ _ ?_;clear hK K;(try simp only[Act.put,setIfInBounds_toArray,set_cons_zero,set_cons_succ]))
 rotate_left
 refine AllReady.cons (i:=9) (rs:=[]) (o:=_) (gs (gs (gs (gs (gs (gs (gs (gs (gs (gz)))))))))) ?_ AllReady.nil;intro K hK
 (refine ja rfl (.tmp 36) rfl (S:=S) rfl ?_;rw[<-U.out,<-Z.out];refine hK _ _ ?_;clear hK K;(try simp only[Act.put,setIfInBounds_toArray,set_cons_zero,set_cons_succ]))
 (refine wpAny_ready (rs:=[4]) κ χ ?_;refine AllReady.cons (i:=4) (rs:=[]) (o:=_) (gs (gs (gs (gs (gz))))) ?_ AllReady.nil;intro K hK)
 (go_simp;refine hK _ _ ?_;clear hK K;(try simp only[Act.put,setIfInBounds_toArray,set_cons_zero,set_cons_succ]))
 all_goals
  (refine wpAny_ready (rs:=[10]) κ χ ?_;refine AllReady.cons (i:=10) (rs:=[]) (o:=_) (gs (gs (gs (gs (gs (gs (gs (gs (gs (gs (gz))))))))))) ?_ AllReady.nil;intro K hK)
  (refine rN rfl (.tmp 32) (.tmp 37) rfl rfl rfl c1 c2 HM b3 ?_;intro v' w5 h1 h2 h3;obtain⟨A',c,rfl,-⟩:=b_ h1;refine hK _ _ ?_;clear hK K;(try simp only[Act.put,setIfInBounds_toArray,set_cons_zero,set_cons_succ]);obtain⟨k1,k2,k3,k4⟩:=b7 _ _ h1 h2 h3;have t:Hid (im lo (w5.setCell ⟨sp,0,none⟩ (.slice A' (m+1) c)) sp ⟨x.sets++[S],x.fol⟩ (.slice A' (m+1) c) vf us/\Fx lo w2 (w5.setCell ⟨sp,0,none⟩ (.slice A' (m+1) c)) (MB sp vs vf us) (MB sp (.slice A' (m+1) c) vf us)):=⟨k3,k4⟩;clear k3 k4 h1 h2 h3)
  (refine wpAny_take (i:=11) (v:=?_) (gs (gs (gs (gs (gs (gs (gs (gs (gs (gs (gs (gz)))))))))))) κ κ κ (λ_ _ _ h=>h) (Or.inl ⟨by rfl,?_⟩) ?_;rotate_left;(focus ((intro w;go_simp)<;>(try with_reducible rfl)));(try simp only[Act.put,setIfInBounds_toArray,set_cons_zero,set_cons_succ]))
  (refine wpAny_take (i:=12) (v:=?_) (gs (gs (gs (gs (gs (gs (gs (gs (gs (gs (gs (gs (gz))))))))))))) κ κ κ (λ_ _ _ h=>h) (Or.inl ⟨by rfl,?_⟩) ?_;rotate_left;(focus ((intro w;go_simp)<;>(try with_reducible rfl)));(try simp only[Act.put,setIfInBounds_toArray,set_cons_zero,set_cons_succ]))
  (refine wpAny_ready (rs:=[13]) κ χ ?_;refine AllReady.cons (i:=13) (rs:=[]) (o:=_) (gs (gs (gs (gs (gs (gs (gs (gs (gs (gs (gs (gs (gs (gz)))))))))))))) ?_ AllReady.nil;intro K hK)
  (go_simp;refine hK _ _ ?_;clear hK K;(try simp only[Act.put,setIfInBounds_toArray,set_cons_zero,set_cons_succ]);refine wpAny_done κ ?_ _;obtain⟨W6,P⟩:=zx (w5.setCell ⟨sp,0,none⟩ (.slice A' (m+1) c));rw[<-P] at t;rw[<-P];clear P k1 k2)
  (have c4:=zh (a8.frame t.2);have y1:W6.cell? ⟨sp,1,none⟩=some vf:=(by simp[cell?,t.out.1.h]);have V:=zh (Zc j.2.2.2.1 t.2.bl.size);have a6:Hid (lo<=(W6.alloc (.cells #[.slice none 0 0] 40)).heap.size):=(by show _<=_;have:=V.out;simp;omega);have b9:Hid (x.fol.length<=1000):=(by show _<=_;have:=j.2.1.f;omega);go_upto_region 9 with(at_builtin;refine ni rfl (.tmp 45) (.tmp 46) rfl rfl rfl (Zm t.1.f _) (Za W6 _) b9 a6 ?_;intro v8 w8 h1 h2 h3;obtain⟨A8,s,rfl,-⟩:=b_ h1;obtain⟨k1,k2,k3,k4⟩:=GX t.1 V ZA h1 h2 h3;have z:Hid (im lo (w8.setCell ⟨sp,1,none⟩ (.slice A8 (x.fol.length+1) s)) sp ⟨x.sets++[S],x.fol++[[]]⟩ (.slice A' (m+1) c) (.slice A8 (x.fol.length+1) s) (us++[.slice none 0 0])/\Fx lo W6 (w8.setCell ⟨sp,1,none⟩ (.slice A8 (x.fol.length+1) s)) (MB sp (.slice A' (m+1) c) vf us) (MB sp (.slice A' (m+1) c) (.slice A8 (x.fol.length+1) s) (us++[.slice none 0 0]))):=⟨k3,k4⟩;clear k3 k4 h1 h2 h3);obtain⟨W9,a1⟩:=zx (w8.setCell ⟨sp,1,none⟩ (.slice A8 (x.fol.length+1) s));rw[<-a1] at z;rw[<-a1];clear a1 k1 k2 y1;have y:=zh (c4.frame z.2);obtain⟨c6,J⟩:=zx ((W9.alloc (.cells #[.int .i64 m] 3)).alloc (.cells #[.int .i64 m] 3));have a2:Below W9.heap.size W9 c6:=(by rw[J];exact ZA.alloc χ _);have a5:=zh (y.below a2);rw[J] at a5;obtain⟨z0,z1,z2⟩:=y.cells;have zz:=y.fz;have b6:=y.lt;have d3:=ne_of_lt b6;have u:B≠W9.heap.size+1:=ω;clear x0 x1 u0 x4;go_wp2;obtain⟨F,hF⟩:=zx (Value.slice (some ⟨W9.heap.size,0,none⟩) 1 1);obtain⟨L,hL⟩:=zx (Value.slice (some ⟨W9.heap.size+1,0,none⟩) 1 1);obtain⟨W,hW⟩:=zx (((d_ W9 B (.bool false) F L).alloc (.cells #[.int .i64 m] 3)).alloc (.cells #[.int .i64 m] 3));have d:=j;obtain⟨q1,q2,q3,q4⟩:=D0 (S:=S) (KP z.1 d.2.1 d.2.2.1 (Zc V z.2.bl.size)) y ((b1.trans t.2).trans z.2) HS.base (by rw[c7.out];exact zq) d.2.2.2.2.2.2 (by rw[d.2.2.2.2.2.2];exact d.2.1.s) hF hL hW;(rw[hF,hL] at hW);change bodyPost _ _ _ _ _ (((d_ W9 B (.bool false) (Value.slice (some ⟨W9.heap.size,0,none⟩) 1 1) (Value.slice (some ⟨W9.heap.size+1,0,none⟩) 1 1)).alloc (.cells #[.int .i64 m] 3)).alloc (.cells #[.int .i64 m] 3));rw[<-hW];obtain⟨g0,g1,g2⟩:=q1.cells;exact Zb (v:=j_ false F L) (by simp[results,results47,go_sem,g0,g1,g2]) rfl ⟨_,F,L,rfl,q2,q3,q4⟩)
def pK {w w':World}{T:RT} (h:aV w (λk=>k<lo) T g) (b:Below lo w w'):aV w' (λk=>k<lo) T g:=Sx.aV.of_heap (λj hj _=>⟨hj,b.block j hj⟩) T g h
def vQ {T:RT} (hc:tQ T) (h:aV w (λk=>k<lo) T g) (hlo:lo<=w.heap.size):JT lo g (bO T) w:=λw' b=>by
 have hs:=b.size;exact mU T hc w' g (Sx.aV.of_heap (w:=w) (λj (hj:j<lo) _=>⟨ω,b.block j hj⟩) T g h)
abbrev KQ (T:RT):Prop:=∀ lo g,Gw 47 lo g (dY T) (bO T) (dt T) (λw=>aV w (λk=>k<lo) T g)
def Cg {e:TypeId} (h:Sx.db w (λk=>k<lo) e 1 v n xs) (hn:0<n):∃ M cap,v=.slice (some ⟨M,0,none⟩) n cap/\M<lo/\n<=cap/\∀(j:Nat) (u:Value),j<n->xs[j]?=some u->w.cell? ⟨M,j,none⟩=some u:=by
 obtain⟨M,cap,hv,hc,hk⟩:=tO h hn;refine⟨M,cap,hv,?_,hc,hk⟩;rcases h.2 with⟨_,h3⟩|⟨g2,d,s,c,hS,_⟩
 .omega
 .rw[hv] at c;injection c with e1 _ _;injection e1 with e1;injection e1 with e1;rw[e1];exact hS
def Ch {T:RT} (hc:tQ T) (hz:bO T=0) (hp:∀ x,dY T x=(cU,x)) (hcst:dt T=0):KQ T:=by
 intro lo g w sp x n N O hS hQ hn hN;have h:=vQ hc hQ hS.base;rw[hz] at h;rw[hp x,hz,hcst];exact AG hS h
def Jd {t:RT}{sg:UInt8}{l h:Int} (hc:tQ (.rep t sg l h)) (hk:ny (.rep t sg l h)) (hs:bO (.rep t sg l h)<=64) (hz:bO (.rep t sg l h)≠0) (ih:bO t<=64->KQ t):KQ (.rep t sg l h):=by
 intro lo g w sp x n N O hS hQ hn hN;have A:=vQ hc hQ hS.base;have e1:dY (.rep t sg l h) x=jC (dY t) sg l h x:=by simp only[dY];rw[Zh hz]
 have e2:dt (.rep t sg l h)=(if sg=123 then l.toNat*(dt t+1)+(if h<0 then dt t+2 else(h-l).toNat*(dt t+1)+1) else dt t+1):=by rw[dt,Zh hz]
 have e3:bO (.rep t sg l h)=min 1000 (if sg=123 then(if h<0 then bO t*(l+1).toNat else bO t*h.toNat) else bO t):=by simp only[bO]
 have u:=hQ;simp only[aV] at u;obtain⟨hg,B,kv,hT,g',C,hR⟩:=u;obtain⟨M,cap,H,hM,z,s⟩:=Cg C Zr;rw[H] at hT;have G:Tk lo w g l h sg.toNat M cap g':=⟨⟨B,hT⟩,s 0 _ Zr rfl,hg,hM,z⟩
 simp only[ny] at hk;obtain⟨-,I⟩:=hk;have j:∀ w1 w2:World,aV w1 (λk=>k<lo) t g'->Below lo w1 w2->aV w2 (λk=>k<lo) t g':=λ_ _ a b=>pK a b
 refine DM (R:=bO (.rep t sg l h)) (F:=dY (.rep t sg l h) x) hS hz A (λw' b=>(hT.of_heap (b.block g hg)).c0) (λw' b hS'=>?_);have c:=G.low b;have d:=pK hR b;rw[e1];rw[e2] at hN ⊢;rw[e3] at hn hs ⊢;rcases I with rfl|rfl|rfl|⟨rfl,⟨l0,l3⟩,hh⟩
 .rw[Zh Zr] at hn hs hN ⊢;rw[Zh Zr];rw[show min 1000 (bO t)=bO t by omega] at hn hs ⊢;exact oe (.inl ⟨rfl,by funext y;unfold jC;rw[Zi rfl]⟩) c hS' d j (ih hs lo g') hn hN
 .rw[Zh Zr] at hn hs hN ⊢;rw[Zh Zr];rw[show min 1000 (bO t)=bO t by omega] at hn hs ⊢;exact oe (.inr (.inl ⟨rfl,by funext y;unfold jC;rw[Zh Zr,Zi rfl]⟩)) c hS' d j (ih hs lo g') hn hN
 .rw[Zh Zr] at hn hs hN ⊢;rw[Zh Zr];rw[show min 1000 (bO t)=bO t by omega] at hn hs ⊢;exact oe (.inr (.inr ⟨rfl,by funext y;unfold jC;rw[Zh Zr,Zh Zr,Zi rfl]⟩)) c hS' d j (ih hs lo g') hn hN
 .rw[Zi rfl] at hn hs hN ⊢;rw[Zi rfl];rw[e3,Zi rfl] at hz;obtain⟨a,rfl⟩:∃ a:Nat,l=a:=⟨l.toNat,ω⟩
  have ea:((a:Int)).toNat=a:=ω
  by_cases hneg:h<0
  .rw[Zi hneg] at hn hs hN hz ⊢;rw[Zi hneg];have e5:((a:Int)+1).toNat=a+1:=ω;rw[e5] at hn hs hz ⊢;rw[ea] at hN ⊢;have hk:bO t*(a+1)<=64:=ω;rw[show min 1000 (bO t*(a+1))=bO t*(a+1) by omega] at hn ⊢;exact ua (b:=0) c hS' d j (ih (by rw[mul_succ] at hk;omega) lo g') ω (.inl ⟨hneg,rfl,rfl,by unfold jC;rw[Zh Zr,Zh Zr,Zh Zr,ea];simp only[Zi hneg]⟩) hn hN
  .rw[Zh hneg] at hn hs hN hz ⊢;rw[Zh hneg];obtain⟨b,hb⟩:∃ b:Nat,h=(a:Int)+b:=⟨(h-a).toNat,ω⟩
   have e5:h.toNat=a+b:=ω;have e7:(h-(a:Int)).toNat=b:=ω;rw[e5] at hn hs hz ⊢;rw[ea,e7] at hN ⊢;have hk:bO t*(a+b)<=64:=ω;rw[show min 1000 (bO t*(a+b))=bO t*(a+b) by omega] at hn hz ⊢;have hp:1<=a+b:=by
    rcases eq_zero_or_pos (a+b) with q|q
    .rw[q] at hz;simp at hz
    .exact q
   exact ua c hS' d j (ih (η (mul_le_mul_left (bO t) hp)) lo g') ω (.inr ⟨ω,hb,rfl,rfl,by unfold jC;rw[Zh Zr,Zh Zr,Zh Zr,ea,e7];simp only[Zh hneg]⟩) hn hN
def Je {ks:List RT} (hc:tQ (.node k ks)) (hs:bO (.node k ks)<=64) (hz:bO (.node k ks)≠0) (ih:bv ks<=64->∀(j:Nat) (hj:j<ks.length),KQ ks[j]):KQ (.node k ks):=by
 intro lo g w sp x n N O hS hQ hn hN;have t:=vQ hc hQ hS.base;have e2:dt (.node k ks)=dt.csts ks:=by rw[dt,Zh hz]
 have e3:bO (.node k ks)=min 1000 (bv ks):=by simp only[bO]
 have y:=hQ;simp only[aV] at y;obtain⟨hg,B,kv,mn,mx,sg,hT,vs,A,hR⟩:=y;simp only[tQ] at hc;obtain⟨hk,-,s⟩:=hc;have C:=hz;rw[e3] at C;have hm:min 1000 (bv ks)=bv ks:=ω;have z:0<ks.length:=by
  cases ks with
  |nil=>simp[bv] at C
  |cons _ _=>simp
 obtain⟨M,cap,G,hM,h,c⟩:=Cg A z;rw[G] at hT;have H:∀ j:Nat,∃ g':Nat,∀ hj:j<ks.length,vs[j]?=some (.pointer (some ⟨g',0,none⟩))/\aV w (λk=>k<lo) ks[j] g':=λj=>by
  by_cases hj:j<ks.length
  .obtain⟨g',a,b⟩:=qN hR j hj;exact⟨g',λ_=>⟨a,b⟩⟩
  .exact⟨0,λq=>(hj q).elim⟩
 obtain⟨gs,u⟩:=Classical.axiomOfChoice H;rw[e2] at hN ⊢;rw[e3,hm] at hn hs ⊢;have d:∀(j:Nat) (hj:j<ks.length),Gw 47 lo (gs j) (dY ks[j]) (bO ks[j]) (dt ks[j]) (λw'=>Below lo w w'):=λj hj w1 sp x n N O h1 h2 h3 h4=>
  ih hs j hj lo (gs j) w1 sp x n N O h1 (pK (u j hj).2 h2) h3 h4
 rcases hk with rfl|rfl
 .have e1:dY (.node 1 ks) x=lL ks cU x:=by simp only[dY];rw[Zh hz,Zi trivial]
  rw[e1];exact yo hS hz t ⟨⟨B,mn,mx,sg,hT⟩,λj hj=>c j _ hj (u j hj).1,hg,hM,h⟩ s d hn hN
 .have e1:dY (.node 2 ks) x=mT ks sj x:=by simp only[dY];rw[Zh hz,Zh Zr]
  rw[e1];exact DZ hS hz t ⟨⟨B,mn,mx,sg,hT⟩,λj hj=>c j _ hj (u j hj).1,hg,hM,h⟩ s d hn hN
mutual
theorem oq:∀ T:RT,tQ T->ny T->bO T<=64->KQ T
 |.bytes S,hc,_,_=>by
  intro lo g w sp x n N O hS hQ hn hN;have h:=vQ hc hQ hS.base;simp only[aV] at hQ;obtain⟨hg,kv,mn,mx,sg,hT⟩:=hQ;have e:N+4096*dt (.bytes S)=N:=by simp[dt]
  rw[e];simp only[bO] at h hn ⊢;simp only[dY];exact yq hS ω h (λw' b=>⟨(hT.of_heap (b.block g hg)).c0,(hT.of_heap (b.block g hg)).range⟩)
 |.rep t sg l h,hc,hk,hs=>by
  by_cases hz:bO (.rep t sg l h)=0
  .exact Ch hc hz (λx=>by simp only[dY];rw[Zi hz]) (by rw[dt,Zi hz])
  .have d:=hc;have c:=hk;simp only[tQ] at d;simp only[ny] at c;exact Jd hc hk hs hz (λq=>oq t d.1 c.1 q)
 |.node k ks,hc,hk,hs=>by
  by_cases hz:bO (.node k ks)=0
  .exact Ch hc hz (λx=>by simp only[dY];rw[Zi hz]) (by rw[dt,Zi hz])
  .have d:=hc;have c:=hk;simp only[tQ] at d;simp only[ny] at c;exact Je hc hs hz (λq=>rO ks d.2.1 c q)
theorem rO:∀ ts:List RT,vu ts->jn ts->bv ts<=64->∀(j:Nat) (hj:j<ts.length),KQ ts[j]
 |[],_,_,_,j,hj=>by simp at hj
 |t::ts,hc,hk,hs,j,hj=>by
  simp only[vu] at hc;simp only[jn] at hk;simp only[bv] at hs
  cases j with
  |zero=>exact oq t hc.1 hk.1 ω
  |succ j=>exact rO ts hc.2 hk.2 ω j (by simpa using hj)
end
structure LB (w wq:World) (cs va vn vm vr:Value) (ms:List Nat) (ab:List Bool) (us:List Value) (rows:List (List Nat)) (r:List Nat):Prop where
 bl:Below w.heap.size w wq
 t:wq.heap[w.heap.size]?=some (.cells #[.bool false,.bool false,.int .i64 0,cs,va,vn] 33)
 m:IL w.heap.size wq vm ms
 a:wq.ownsRow w.heap.size 4 1 va ab.length (ab.map Value.bool)
 n:wq.ownsRow w.heap.size 40 1 vn rows.length us
 u:∀ i (hi:i<us.length),IL w.heap.size wq us[i] (rows.getD i [])
 r:IL w.heap.size wq vr r
 dm:∀ u∈us,∀ b,u.ownBlock=some b->vm.ownBlock≠some b
 dr:∀ u∈us,∀ b,u.ownBlock=some b->vr.ownBlock≠some b
 mr:∀ b,vm.ownBlock=some b->vr.ownBlock≠some b
section
variable {w wq w1 w':World}{cs va vn vm vr v':Value}{ms:List Nat}{ab:List Bool}{us:List Value}{rows:List (List Nat)}{r:List Nat}
theorem LB.ul (h:LB w wq cs va vn vm vr ms ab us rows r):us.length=rows.length:=by have:=h.n.1;omega
def LB.tl (h:LB w wq cs va vn vm vr ms ab us rows r):w.heap.size<wq.heap.size:=(ZC h.t)
theorem LB.below (h:LB w wq cs va vn vm vr ms ab us rows r) (g:Below wq.heap.size wq w'):LB w w' cs va vn vm vr ms ab us rows r:=
 ⟨h.bl.trans (g.mono h.bl.size),(g.block _ h.tl).trans h.t,h.m.below g,ak h.a (λb e=>g.block b (h.a.lt b e).2),ak h.n (λb e=>g.block b (h.n.lt b e).2),λi hi=>(h.u i hi).below g,h.r.below g,h.dm,h.dr,h.mr⟩
def yr (hb:Below wq.heap.size wq w1) (hg:(v'.ownBlock=v.ownBlock/\w1.grownBy w' v.ownBlock)\/(v'.ownBlock=some w1.heap.size/\w1.grownBy w' none)):∀ b,b<wq.heap.size->v.ownBlock≠some b->w'.heap[b]?=wq.heap[b]?:=λb q ne=>by
 have hs:=hb.size;rcases hg with⟨_,g⟩|⟨_,g⟩
 .exact(g.block b ω (λe=>ne e.symm)).trans (hb.block b q)
 .exact(g.block b ω (λe=>by cases e)).trans (hb.block b q)
def uu (hlo:lo<=wq.heap.size) (hv:∀ b,v.ownBlock=some b->lo<=b) (hb:Below wq.heap.size wq w1) (hg:(v'.ownBlock=v.ownBlock/\w1.grownBy w' v.ownBlock)\/(v'.ownBlock=some w1.heap.size/\w1.grownBy w' none)):Below lo wq w':=by
 have hs:=hb.size;rcases hg with⟨_,g⟩|⟨_,g⟩
 .exact(hb.mono hlo).trans (dQ g hv ω)
 .exact(hb.mono hlo).trans (dQ g (λb e=>by cases e) ω)
def pL (hb:Below wq.heap.size wq w1) (hg:(v'.ownBlock=v.ownBlock/\w1.grownBy w' v.ownBlock)\/(v'.ownBlock=some w1.heap.size/\w1.grownBy w' none)) {b:Nat} (e:v'.ownBlock=some b):v.ownBlock=some b\/wq.heap.size<=b:=by
 have hs:=hb.size;rcases hg with⟨g,_⟩|⟨g,_⟩
 .simp_all
 .simp_all
def LB.growM (h:LB w wq cs va vn vm vr ms ab us rows r) (hb:Below wq.heap.size wq w1) {x:Nat} (hv:IL w.heap.size w' v' (ms++[x])) (hg:(v'.ownBlock=vm.ownBlock/\w1.grownBy w' vm.ownBlock)\/(v'.ownBlock=some w1.heap.size/\w1.grownBy w' none)):LB w w' cs va vn v' vr (ms++[x]) ab us rows r:=by
 have hk:=yr hb hg;have nT:∀ {b:Nat}{e:TypeId}{c:Array Value}{f:Nat×Nat},wq.heap[b]?=some (.cells c e f)->e≠3->vm.ownBlock≠some b:=λq ne e=>by
  obtain⟨c1,q1⟩:=az h.m.o e;exact aU q q1 ne rfl
 refine⟨h.bl.trans (uu h.bl.size (λb e=>(h.m.lt e).1) hb hg),(hk _ h.tl (nT h.t Zr)).trans h.t,hv,ak h.a (λb e=>hk b (h.a.lt b e).2 ?_),ak h.n (λb e=>hk b (h.n.lt b e).2 ?_),λi hi=>(h.u i hi).keep (λb e=>hk b ((h.u i hi).lt e).2 (h.dm _ (Zg hi) b e)),h.r.keep (λb e=>hk b (h.r.lt e).2 (λq=>h.mr b q e)),λu hu b e q=>?_,h.dr,λb e q=>?_⟩
 .obtain⟨c1,q1⟩:=az h.a e;exact nT q1 Zr
 .obtain⟨c1,q1⟩:=az h.n e;exact nT q1 Zr
 .rcases pL hb hg q with q|q
  .exact h.dm u hu b e q
  .obtain⟨i,hi,rfl⟩:=mem_iff_getElem.1 hu;have:=((h.u i hi).lt e).2;omega
 .rcases pL hb hg e with e|e
  .exact h.mr b e q
  .have:=(h.r.lt q).2;omega
def LB.growR (h:LB w wq cs va vn vm vr ms ab us rows r) (hb:Below wq.heap.size wq w1) {x:Nat} (hv:IL w.heap.size w' v' (r++[x])) (hg:(v'.ownBlock=vr.ownBlock/\w1.grownBy w' vr.ownBlock)\/(v'.ownBlock=some w1.heap.size/\w1.grownBy w' none)):LB w w' cs va vn vm v' ms ab us rows (r++[x]):=by
 have hk:=yr hb hg;have nT:∀ {b:Nat}{e:TypeId}{c:Array Value}{f:Nat×Nat},wq.heap[b]?=some (.cells c e f)->e≠3->vr.ownBlock≠some b:=λq ne e=>by
  obtain⟨c1,q1⟩:=az h.r.o e;exact aU q q1 ne rfl
 refine⟨h.bl.trans (uu h.bl.size (λb e=>(h.r.lt e).1) hb hg),(hk _ h.tl (nT h.t Zr)).trans h.t,h.m.keep (λb e=>hk b (h.m.lt e).2 (h.mr b e)),ak h.a (λb e=>hk b (h.a.lt b e).2 ?_),ak h.n (λb e=>hk b (h.n.lt b e).2 ?_),λi hi=>(h.u i hi).keep (λb e=>hk b ((h.u i hi).lt e).2 (h.dr _ (Zg hi) b e)),hv,h.dm,λu hu b e q=>?_,λb e q=>?_⟩
 .obtain⟨c1,q1⟩:=az h.a e;exact nT q1 Zr
 .obtain⟨c1,q1⟩:=az h.n e;exact nT q1 Zr
 .rcases pL hb hg q with q|q
  .exact h.dr u hu b e q
  .obtain⟨i,hi,rfl⟩:=mem_iff_getElem.1 hu;have:=((h.u i hi).lt e).2;omega
 .rcases pL hb hg q with q|q
  .exact h.mr b e q
  .have:=(h.m.lt e).2;omega
def LB.growN (h:LB w wq cs va vn vm vr ms ab us rows r) (hb:Below wq.heap.size wq w1) (ho:w'.ownsRow w.heap.size 40 1 v' (rows.length+1) (us++[vr])) (hg:w1.grownBy w' vn.ownBlock) :
  w'.cell? ⟨w.heap.size,5,none⟩=some vn/\(∀ o,w'.frozen? ⟨w.heap.size,o,none⟩=false)/\LB w (w'.setCell ⟨w.heap.size,5,none⟩ v') cs va v' vm (.slice none 0 0) ms ab (us++[vr]) (rows++[r]) []:=by
 have s:=hb.size;have t:=h.ul;have hk:∀ b,b<wq.heap.size->vn.ownBlock≠some b->w'.heap[b]?=wq.heap[b]?:=λb q ne=>(hg.block b ω (λe=>ne e.symm)).trans (hb.block b q)
 have nT:∀ {b:Nat}{e:TypeId}{c:Array Value}{f:Nat×Nat},wq.heap[b]?=some (.cells c e f)->e≠40->vn.ownBlock≠some b:=λq ne e=>by
  obtain⟨c1,q1⟩:=az h.n e;exact aU q q1 ne rfl
 have ht:=(hk _ h.tl (nT h.t Zr)).trans h.t;have d:∀ {b:Nat}{e:TypeId}{c:Array Value}{f:Nat×Nat},b<wq.heap.size->wq.heap[b]?=some (.cells c e f)->e≠40->e≠33->(w'.setCell ⟨w.heap.size,5,none⟩ v').heap[b]?=wq.heap[b]?:=λhb q n1 n2=>by grind [ah,aU]
 have kI:∀ {u:Value}{l:List Nat},IL w.heap.size wq u l->IL w.heap.size (w'.setCell ⟨w.heap.size,5,none⟩ v') u l:=λg=>g.keep (λb e=>by
  obtain⟨c1,q1⟩:=az g.o e
  exact d (g.lt e).2 q1 Zr Zr)
 refine⟨by simp[cell?,ht],λo=>by simp[frozen?,ht],⟨?_,by rw[ap ht];rfl,kI h.m,ak h.a (λb e=>?_),?_,λi hi=>?_,IL.nil _ _,λu hu b e=>?_,λ_ _ _ _ q=>(by cases q),λ_ _ q=>(by cases q)⟩⟩
 .exact(h.bl.trans ((hb.mono h.bl.size).trans (dQ hg (λb e=>(h.n.lt b e).1) (Zc h.bl.size s)))).setCell (p:=⟨w.heap.size,5,none⟩) zq _
 .obtain⟨c1,q1⟩:=az h.a e;exact d (h.a.lt b e).2 q1 Zr Zr
 .grind [ak,ah,az,aU]
 .rcases Nat.lt_or_ge i us.length with q|q
  .rw[Zp q];have e:(rows++[r]).getD i []=rows.getD i []:=by simp_all
   rw[e];exact kI (h.u i q)
  .have j:i=us.length:=by simp at hi;omega
   subst j;have e:(rows++[r]).getD us.length []=r:=by simp_all
   simp only[getElem_concat_length,e];exact kI h.r
 .rcases mem_append.1 hu with q|q
  .exact h.dm u q b e
  .simp at q;subst q;exact λq2=>h.mr b q2 e
def LB.growA (h:LB w wq cs va vn vm vr ms ab us rows r) (hb:Below wq.heap.size wq w1) {x:Bool} (ho:w'.ownsRow w.heap.size 4 1 v' (ab.length+1) (ab.map Value.bool++[.bool x])) (hg:w1.grownBy w' va.ownBlock) :
  w'.cell? ⟨w.heap.size,4,none⟩=some va/\(∀ o,w'.frozen? ⟨w.heap.size,o,none⟩=false)/\LB w (w'.setCell ⟨w.heap.size,4,none⟩ v') cs v' vn vm vr ms (ab++[x]) us rows r:=by
 have j:=hb.size;have hk:∀ b,b<wq.heap.size->va.ownBlock≠some b->w'.heap[b]?=wq.heap[b]?:=λb q ne=>(hg.block b ω (λe=>ne e.symm)).trans (hb.block b q)
 have nT:∀ {b:Nat}{e:TypeId}{c:Array Value}{f:Nat×Nat},wq.heap[b]?=some (.cells c e f)->e≠4->va.ownBlock≠some b:=λq ne e=>by
  obtain⟨c1,q1⟩:=az h.a e;exact aU q q1 ne rfl
 have ht:=(hk _ h.tl (nT h.t Zr)).trans h.t;have d:∀ {b:Nat}{e:TypeId}{c:Array Value}{f:Nat×Nat},b<wq.heap.size->wq.heap[b]?=some (.cells c e f)->e≠4->e≠33->(w'.setCell ⟨w.heap.size,4,none⟩ v').heap[b]?=wq.heap[b]?:=λhb q n1 n2=>by grind [ah,aU]
 have kI:∀ {u:Value}{l:List Nat},IL w.heap.size wq u l->IL w.heap.size (w'.setCell ⟨w.heap.size,4,none⟩ v') u l:=λg=>g.keep (λb e=>by
  obtain⟨c1,q1⟩:=az g.o e
  exact d (g.lt e).2 q1 Zr Zr)
 refine⟨by simp[cell?,ht],λo=>by simp[frozen?,ht],⟨?_,by rw[ap ht];rfl,kI h.m,?_,ak h.n (λb e=>?_),λi hi=>kI (h.u i hi),kI h.r,h.dm,h.dr,h.mr⟩⟩
 .exact(h.bl.trans ((hb.mono h.bl.size).trans (dQ hg (λb e=>(h.a.lt b e).1) (Zc h.bl.size j)))).setCell (p:=⟨w.heap.size,4,none⟩) zq _
 .grind [ak,ah,az,aU]
 .obtain⟨c1,q1⟩:=az h.n e;exact d (h.n.lt b e).2 q1 Zr Zr
end
open Go.RowKit
def KR (hS:Sv lo sp x n N w O) (hP:Pv lo w O n m f l p) (hn:n<=64) (hm:m<=64) (hN:N<=800000000) (hbr:∀ i j,j∈x.fol.getD i []->j<n):∃ vs vf us,Hr lo w sp x p vs vf us f l:=by
 obtain⟨vs,vf,us,rfl,h1,h2,h3,h4⟩:=hS;have a1:=hP.lf;have a2:=hP.ll;exact⟨vs,vf,us,⟨h1,hP.pc,h4,by rw[h2.s];exact hn,by rw[h2.f,h2.s],λi hi=>by rw[h2.s];exact hP.b.f i hi,λi j hj=>by rw[h2.s];exact hbr i j hj,ω,ω,λi=>Zc (h3 i) ω⟩⟩
def GY (w:World):Sv w.heap.size w.heap.size ⟨[],[]⟩ 0 0 (w.alloc (.cells #[.slice none 0 0,.slice none 0 0] 106)) (MB w.heap.size (.slice none 0 0) (.slice none 0 0) []):=
 ⟨_,_,_,rfl,⟨Za w _,zq,Zn _ _ _ _,Zn _ _ _ _,λi hi=>by simp at hi,λi j hi=>by simp at hi⟩,⟨rfl,rfl⟩,λi=>χ,χ⟩
def GZ {cs:List (List Sx.aO)} (h0:cs≠[]) (h:aX cs):∀ i j,j∈(dY (Sx.dp cs) ⟨[],[]⟩).2.fol.getD i []->j<aY cs:=λi j hj=>by
 have hr:=(nX h0 h).2 false;rcases Nat.lt_or_ge i (aY cs) with q|q
 .have h2:=(hr.fo i j q).1 hj;obtain⟨i1,i2⟩:=Ad cs h0 h (BO cs h);obtain⟨h1,-,h3⟩:=i1.r 0 ⟨[],[]⟩ ⟨rfl,rfl⟩;have:=((i1.s 0 j).1 (h3.ia.o i j h2).2).2;omega
 .have hl:=hr.fl;rw[getD_eq_getElem?_getD,getElem?_eq_none (by simp only at hl;omega)] at hj
  cases hj
theorem uv:∀(rows:List (List Nat)) (i z:Nat),(∀ r∈rows,r.length=256)->i<rows.length->z<256->(rows.flatMap λr=>r.map lO)[i*256+z]?=some (lO ((rows.getD i []).getD z 0))
 |[],i,z,_,hi,_=>by simp at hi
 |r::rows,0,z,h,_,hz=>by
  have hr:=h r χ;rw[flatMap_cons,Nat.zero_mul,Nat.zero_add,Zo (by rw[length_map,hr];exact hz),getElem?_map,Zj ω];simp only[Option.map_some,getD_cons_zero];rw[getD_at ω]
 |r::rows,i+1,z,h,hi,hz=>by
  have hr:=h r χ;rw[flatMap_cons,getElem?_append_right (by rw[length_map,hr];omega),length_map,hr,show(i+1)*256+z-256=i*256+z by omega,uv rows i z (λq hq=>h q (by simp[hq])) (by simpa using hi) hz];rfl
def SA.next {w wq:World}{bx:Array Value}{va vn:Value}{met:List (List UInt8)}{rows:List (List Nat)} (h:SA w wq bx va vn met rows) (hr:∀ r∈rows,r.length=256) (hp:0<rows.length):∃ V cv,vn=.slice (some ⟨V,0,none⟩) rows.length cv/\rows.length<=cv/\∀ i z,i<rows.length->z<256->wq.cell? ⟨V,i*256+z,none⟩=some (.int .i64 ((rows.getD i []).getD z 0:Nat)):=by
 rcases h.n.2 with⟨h1,h2⟩|⟨V,cap,c,hv,_,hg,d,j,s,ht⟩
 .omega
 .refine⟨V,cap,hv,d,λi z hi hz=>?_⟩;have h3:c.toList[i*256+z]?=some (lO ((rows.getD i []).getD z 0)):=by
   have h4:(c.toList.take (rows.length*256))[i*256+z]?=some (lO ((rows.getD i []).getD z 0)):=by rw[ht];exact uv rows i z hr hi hz
   have:i*256+z<rows.length*256:=by
    have:=mul_le_mul_right 256 (show i+1<=rows.length from hi);omega
   rwa [getElem?_take_of_lt this] at h4
  simp only[cell?,hg]
  simpa [lO] using h3
open Sx (aV dp)
def AP {s:List UInt8}{p:Sx.sT}{r:List UInt8} (h:Sx.cz s=.ok p r) (hl:s.length<=200) (hT:aX p.choices):tQ (dp p.choices)/\ny (dp p.choices)/\(bO (dp p.choices)<=64->4096*dt (dp p.choices)<=800000000):=by
 have hw:=DL h;have hk:=JP (Gr _ hT);refine⟨Gu _ hk (JR (Gt _)) ω,hk,λh64=>?_⟩;have h1:=rt _ hk h64;have h2:bO (dp p.choices)*jb (dp p.choices)<=64*1604:=Nat.mul_le_mul h64 ω;have h3:dt (dp p.choices)<=102656:=ω;have h4:=mul_le_mul_left 4096 h3;exact Zc h4 Zr
def D1 {p:Sx.sT} (hc:tQ (dp p.choices)) (hk:ny (dp p.choices)) (h64:bO (dp p.choices)<=64) (hb:4096*dt (dp p.choices)<=800000000) (hr:aV w (λk=>k<w.heap.size) (dp p.choices) g)  (hW:Below w.heap.size w W)  (hS:Sv w.heap.size sp ⟨[],[]⟩ 0 0 W O) :
  Calls prog 47 #[.pointer (some ⟨sp,0,none⟩),.pointer (some ⟨g,0,none⟩)] W λe w'=>∃ O' f' l',e=.returned (j_ (dY (dp p.choices) ⟨[],[]⟩).1.em f' l')/\Sv w.heap.size sp (dY (dp p.choices) ⟨[],[]⟩).2 (bO (dp p.choices)) (4096*dt (dp p.choices)) w' O'/\Pv w.heap.size w' O' (bO (dp p.choices)) (bO (dp p.choices)) f' l' (dY (dp p.choices) ⟨[],[]⟩).1/\Fx w.heap.size W w' O O':=by
 have:=oq _ hc hk h64 w.heap.size g W sp ⟨[],[]⟩ 0 0 O hS (pK hr hW) ω ω;simp only[Nat.zero_add] at this;exact this
def rQ {cs:List (List Sx.aO)} (h0:cs≠[]) (h:aX cs) (h64:bO (dp cs)<=64) (fr:Bool):FP (pn (dY (dp cs) ⟨[],[]⟩).2 (dY (dp cs) ⟨[],[]⟩).1 fr) (aY cs) (gK cs 0)/\aY cs=bO (dp cs):=by
 obtain⟨h1,h2⟩:=nX h0 h;exact⟨h2 fr,ω⟩
def yt {pt:Sx.sT}{limit:Nat} (h0:pt.choices≠[]) (hT:aX pt.choices) (h64:bO (dp pt.choices)<=64) (hl1:1<=limit) (hl2:limit<=200) {s:Rs} (hs:s=pn (dY (dp pt.choices) ⟨[],[]⟩).2 (dY (dp pt.choices) ⟨[],[]⟩).1 pt.front) :
  (iP s limit=none/\bS pt limit=none)\/∃ x t n,iP s limit=some x/\bS pt limit=some t/\n<=200/\ej n 256 (gh s pt.back x)/\aG (gh s pt.back x)=aG t/\x.1.length=n:=by
 obtain⟨h1,h2⟩:=rQ h0 hT h64 pt.front;rw[<-hs] at h1;exact Du hl1 hl2 hT ω h1 (by rw[hs];rfl)
end Go.Proofs.YtbjabpodkaokjaaGreatDoor
