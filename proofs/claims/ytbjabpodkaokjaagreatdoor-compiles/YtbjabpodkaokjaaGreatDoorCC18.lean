import Derived.Test.YtbjabpodkaokjaaGreatDoorCC17
import Derived.Sort.CutIn
set_option linter.all false
set_option maxHeartbeats 4000000
set_option maxRecDepth 100000
open List Nat Go.World Go.Proofs.Tryz
namespace Go.Proofs.YtbjabpodkaokjaaGreatDoor
open Go.RowKit
open Sx (aO dw)
variable {w:World}{sb:Nat}{x:W4}{vf:Value}{w':World}{b:Bool}{base:Nat}{s:Sr}{n:Nat}{v:Value}{t:Nat}{vb:Value}{bs:List (Nat->Bool)}{W W':World}{cs:Array Value}{fr:Nat×Nat}{y:W4}{fs:List W4}{is:List Nat}{i:Nat}{a:W4}{H:Nat}{q:W4}{qe:Bool}{rd:W4}
def sJ (p:aO) (hok:iX p) (hp:iM p) (L:Nat) (hM30:L<=30) (w w1:World) (sb:Nat) (vb vf:Value) (e:Ex) (n:Nat) (s:Sx.cj) (h:jG w sb vb vf e n (bJ p*(L+1))) (ht:TR 3 sb w vb vf w1 vb vf e) (hb:TB w1 w.heap.size s 123 L (-1)) (hew:w1=tW w s 123 L (-1)) (hR:Sx.eY w (λg=>g<sb) p s.cells) (r0:Pc) (e0:Ex) (hr0:r0=(bp p e).1.may) (he0:e0=(bp p e).2.join (bp p e).1 (bp p e).1) :
  Calls prog 199 #[.pointer (some ⟨sb,0,none⟩),s.val,.agg #[.int .u8 123,.int .i64 L,.int .i64 (-1)]] w (gW sb w vb vf (ei (bp p) L L r0 e0)):=by
 have d4:w1.heap.size=w.heap.size+3:=by rw[hew];simp
 have HH:=zh h;have HW:Hid (w1=((w.alloc (.cells #[.slice s.q0 s.q1 s.q2,.int .u64 s.y0,.int .u64 s.y1,.int .u64 s.y2,.int .u64 s.y3,.slice s.r0 s.r1 s.r2] 231)).alloc (.cells #[.int .u8 123,.int .i64 L,.int .i64 (-1)] 282)).alloc (.cells zC 152)):=hew;have c8:Hid (∀ cs r,cs=ik r->BS sb w vb vf (w1.alloc (.cells cs 152)) vb vf e r s L (-1)):=λcs r hc=>Ge ht (λb hb=>h.lt hb) d4 hb hc
 have HR:Hid (Sx.eY w (λg=>g<sb) p s.cells):=hR;have d0:bJ p*(L+1)=bJ p*L+bJ p:=mul_succ _ _;have b9:Hid (r0=(bp p e).1.may/\e0=(bp p e).2.join (bp p e).1 (bp p e).1):=⟨hr0,he0⟩
 have D:=fK p hok n e (η h.le) h.ok;have T:Hid (n+bJ p+bJ p*L<=64):=by have:=h.le;show _<=_;omega
 clear hew h ht hb hR hr0 he0 d0
 go_enter func199,ntmps199
 go_wp2
 go_region
 rw[<-HW.out];obtain⟨W0,a6⟩:=zx ((w1.alloc (.cells #[.int .u64 0,.int .u64 0,.int .u64 0,.int .u64 0,.int .u64 0,.int .u64 0,.int .u64 0,.int .u64 0,.bool true] 152)).drew);rw[<-a6];have C:=(c8.out #[.int .u64 0,.int .u64 0,.int .u64 0,.int .u64 0,.int .u64 0,.int .u64 0,.int .u64 0,.int .u64 0,.bool true] eD rfl).below (show Below _ _ (w1.alloc (.cells #[.int .u64 0,.int .u64 0,.int .u64 0,.int .u64 0,.int .u64 0,.int .u64 0,.int .u64 0,.int .u64 0,.bool true] 152)).drew from ZB.drew);rw[<-a6] at C;have d6:=zh C;obtain⟨p0,p1,p2,p3,p4,p5⟩:=lX C.tb.k0;obtain⟨c0,c1,c2⟩:=dL C.tb.k1;have N:jG W0 sb vb vf e n (bJ p):=C.tr.beg HH.out HH.out.ok (η T.out);have l:=hp W0.drew sb vb vf e n s (N.below ZB.drew) (dK HR.out ((C.tr.bl HH.out).trans ZB.drew));obtain⟨X,hX⟩:=zx (bp p e);rw[<-hX] at l D;have HX:Hid (r0=X.1.may/\e0=X.2.join X.1 X.1):=by rw[hX];exact b9.out
 have Q:=zh (C.below ZB.drew);have f:=zh D;clear C a6 N hX D b9
 go_upto_region 10 with(fail)
 go_cut [8] from 37 to 44 (λu8 wc=>u8=.int .i64 L/\∃ z u,BS sb w vb vf wc z u e0 r0 s L (-1))
 case first=>
  go_region_with (first|(go_at_call 210;refine(lE w3 X.1).mono ?_;rintro r w4 ⟨rfl,c9⟩;have S:=zh (G.out.below c9);obtain⟨f0,f1,f2,f3,f4,f5,f6,f7,f8⟩:=bP S.out.rb;obtain⟨h0,h1,h2⟩:=dL S.out.tb.k1;have ff:=S.out.fz;clear c9)|(go_at_call 211;refine(nZ w2 sb z u X.2 X.1 (n+bJ p) (B.out.tr.tz HH.out) HH.out.s1 B.out.tr.at_ (η T.out) f.out.1 f.out.2).mono ?_;rintro r w3 ⟨rfl,J,K⟩;have G:=zh (B.out.call J K);obtain⟨h0,h1,h2⟩:=dL G.out.tb.k1;clear J K)|(go_at_call 176;refine l.mono ?_;rintro r w2 ⟨rfl,z,u,I,O⟩;have B:=zh (Q.out.call I O);obtain⟨g0,g1,g2⟩:=dL B.out.tb.k1;clear I O))
  all_goals (
   obtain⟨W,hW⟩:=zx (S9 w4 (w.heap.size+1+1+1) X.1.may);have o:=hW;simp only[S9] at o;rw[<-o];have a8:Hid (BS sb w vb vf W z u e0 r0 s L (-1)):=by rw[HX.out.1,HX.out.2,hW];exact S.out.put _
   clear hW o f0 f1 f2 f3 f4 f5 f6 f7 f8 ff;go_wp2
   go_meet
   exact⟨rfl,z,u,a8.out⟩)
 case rest=>
  obtain⟨rfl,z,u,a7⟩:=hcut;have d2:=zh a7;have a3:Hid (K2 (n+bJ p) e0 r0):=by
   rw[HX.out.1,HX.out.2];exact⟨f.out.1.join f.out.2,f.out.2.may⟩
  clear p0 p1 p2 p3 p4 p5 c0 c1 c2 l d6 Q f HX c8;obtain⟨c0,c1,c2⟩:=dL a7.tb.k1;clear a7;have c7:Hid (∀ k,k<=L-L->K2 ((n+bJ p)+bJ p*k) (aC (λr=>cD (aA (bp p) r)) k r0 e0).2 (aC (λr=>cD (aA (bp p) r)) k r0 e0).1):=λk hk=>by
   have:=gH (g:=λr=>cD (aA (bp p) r)) (k:=bJ p) (λn e r hn he hr=>⟨(dV (fK p hok) hn he hr).1,(dV (fK p hok) hn he hr).2.may⟩) k (n+bJ p) e0 r0 (by have:=T.out;have:bJ p*k<=bJ p*L:=mul_le_mul_left _ ω;omega) a3.out.e a3.out.r;exact⟨this.1,this.2⟩
  go_wp2
  go_loopw [49] (λi wr=>∃(k:Nat) (vb' vf':Value),k<=L-L/\i=.int .i64 k/\BS sb w vb vf wr vb' vf' (aC (λr=>cD (aA (bp p) r)) k r0 e0).2 (aC (λr=>cD (aA (bp p) r)) k r0 e0).1 s L (-1)) (λi _=>L-L-(intOf i).toNat)
  case atStart=>exact⟨0,_,_,ω,rfl,d2.out⟩
  case round=>
   clear c0 c1 c2;obtain⟨k,e3,e1,hk,rfl,c⟩:=hrel;have d:=c7.out k hk;have F:Hid (aC (λr=>cD (aA (bp p) r)) (k+1) r0 e0=(((bp p (aC (λr=>cD (aA (bp p) r)) k r0 e0).2).1.join (aC (λr=>cD (aA (bp p) r)) k r0 e0).1).may,(bp p (aC (λr=>cD (aA (bp p) r)) k r0 e0).2).2.join (bp p (aC (λr=>cD (aA (bp p) r)) k r0 e0).2).1 (aC (λr=>cD (aA (bp p) r)) k r0 e0).1)):=by show _=_;rw[iC];rfl
   have m:Hid (k=L-L->aC (λr=>cD (aA (bp p) r)) (L-L) r0 e0=((aC (λr=>cD (aA (bp p) r)) k r0 e0).1,(aC (λr=>cD (aA (bp p) r)) k r0 e0).2)):=λhk=>by rw[hk]
   obtain⟨A,hA⟩:=zx ((aC (λr=>cD (aA (bp p) r)) k r0 e0).1);obtain⟨E,hE⟩:=zx ((aC (λr=>cD (aA (bp p) r)) k r0 e0).2);rw[<-hA,<-hE] at c d F m;have d5:=zh c;have U:=zh d;obtain⟨p0,p1,p2,p3,p4,p5⟩:=lX c.tb.k0;obtain⟨c0,c1,c2⟩:=dL c.tb.k1;obtain⟨b0,b1,b2,b3,b4,b5,b6,b7,b8⟩:=bP c.rb
   by_cases hlt:k<L-L
   .omega
   .have e2:¬(k:Int)<0:=ω;have d1:k=L-L:=ω;have d7:Hid (ei (bp p) L L r0 e0=aC (aA (bp p)) L A E):=by
     show _=_;unfold ei;rw[m.out d1]
    have a9:(n+bJ p)+bJ p*k+bJ p*L<=64:=by
     have:=T.out;have h2:bJ p*k+bJ p*L=bJ p*L:=by rw[<-Nat.mul_add];congr 1;omega
     omega
    have a4:Hid (∀ j,j<=L->K2 ((n+bJ p)+bJ p*k+bJ p*j) (aC (aA (bp p)) j A E).2 (aC (aA (bp p)) j A E).1):=λj hj=>by
     have:=gH (g:=aA (bp p)) (k:=bJ p) (λn e r hn he hr=>dV (fK p hok) hn he hr) j ((n+bJ p)+bJ p*k) E A (by have:bJ p*j<=bJ p*L:=mul_le_mul_left _ hj;omega) U.out.e U.out.r;exact⟨this.1,this.2⟩
    have c3:=zh a9;obtain⟨n1,a2⟩:=zx ((n+bJ p)+bJ p*k);rw[<-a2] at a4 c3;clear c d hA hE F m a9 a2 p0 p1 p2 p3 p4 p5 b0 b1 b2 b3 b4 b5 b6 b7 b8;go_wp2
    rename World=>wx
    go_loopw [61] (λi wr=>∃(j:Nat) (vb' vf':Value),j<=L/\i=.int .i64 j/\BS sb w vb vf wr vb' vf' (aC (aA (bp p)) j A E).2 (aC (aA (bp p)) j A E).1 s L (-1)) (λi _=>L-(intOf i).toNat)
    case atStart=>exact⟨0,_,_,ω,rfl,d5.out⟩
    case round=>
     clear c0 c1 c2;obtain⟨j,a1,Z,hj,rfl,c⟩:=hrel;have d:=a4.out j hj;have F:Hid (aC (aA (bp p)) (j+1) A E=((bp p (aC (aA (bp p)) j A E).2).1.join (aC (aA (bp p)) j A E).1,(bp p (aC (aA (bp p)) j A E).2).2.join (bp p (aC (aA (bp p)) j A E).2).1 (aC (aA (bp p)) j A E).1)):=by show _=_;rw[iC];rfl
     have m:Hid (j=L->aC (aA (bp p)) L A E=((aC (aA (bp p)) j A E).1,(aC (aA (bp p)) j A E).2)):=λhk=>by rw[hk]
     obtain⟨A2,hA⟩:=zx ((aC (aA (bp p)) j A E).1);obtain⟨E2,hE⟩:=zx ((aC (aA (bp p)) j A E).2);rw[<-hA,<-hE] at c d F m;have Y:=zh c;have a5:=zh d;obtain⟨p0,p1,p2,p3,p4,p5⟩:=lX c.tb.k0;obtain⟨b0,b1,b2,b3,b4,b5,b6,b7,b8⟩:=bP c.rb;obtain⟨z0,z1,z2,z3,z4,z5,z6,z7,z8⟩:=eX c.tb.k2;have zf:=c.tb.zf
     by_cases hlj:j<L
     .have d8:(j:Int)<L:=ω;have R:n1+bJ p*j+bJ p<=64:=by
       have:=c3.out;have h2:bJ p*(j+1)<=bJ p*L:=mul_le_mul_left _ ω;rw[mul_succ] at h2;omega
      have V:=c.tr.beg HH.out d.e R;have l:=hp wr.drew sb a1 Z E2 (n1+bJ p*j) s (V.below ZB.drew) (dK HR.out ((c.tr.bl HH.out).trans ZB.drew));have P:=fK p hok (n1+bJ p*j) E2 R d.e;obtain⟨X,hX⟩:=zx (bp p E2);rw[<-hX] at l P F;have Q:=zh (c.below ZB.drew);have f:=zh P;have d3:=zh R;clear c d P hX hA hE R V m z0 z1 z2 z3 z4 z5 z6 z7 z8 zf;go_wp2
      go_region_with (first|(go_at_call 175;refine(mX w2 sb z u X.2 X.1 A2 (n1+bJ p*j+bJ p) (B.out.tr.tz HH.out) HH.out.s1 B.out.tr.at_ d3.out f.out.1 f.out.2 (a5.out.r.mono ω)).mono ?_;rintro r w3 ⟨rfl,J,K⟩;have G:=zh (B.out.call J K);obtain⟨f0,f1,f2,f3,f4,f5,f6,f7,f8⟩:=bP G.out.rb;have ff:=G.out.fz;clear J K)|(go_at_call 176;refine l.mono ?_;rintro r w2 ⟨rfl,z,u,I,O⟩;have B:=zh (Q.out.call I O);obtain⟨g0,g1,g2,g3,g4,g5,g6,g7,g8⟩:=bP B.out.rb;clear I O))
      all_goals (
       obtain⟨W,hW⟩:=zx (S9 w3 (w.heap.size+1+1+1) (X.1.join A2));have o:=hW;simp only[S9] at o;rw[<-o];have a8:Hid (BS sb w vb vf W z u (X.2.join X.1 A2) (X.1.join A2) s L (-1)):=by rw[hW];exact G.out.put _
       clear hW o f0 f1 f2 f3 f4 f5 f6 f7 f8 ff;go_wp2
       go_roundw
       case rel=>exact⟨j+1,z,u,ω,π,by rw[F.out];exact a8.out⟩
       case measure=>simp[intOf]<;>omega)
     .have d9:¬(j:Int)<L:=ω;have c4:j=L:=ω;have c6:Hid (ei (bp p) L L r0 e0=(A2,E2)):=by show _=_;rw[d7.out,m.out c4]
      clear c d hA hE F m c4 p0 p1 p2 p3 p4 p5;go_wp2
      obtain⟨W,hW⟩:=zx (S9 wr (w.heap.size+1+1) A2);have o:=hW;simp only[S9] at o;rw[<-o];have hq:W.heap[w.heap.size+1+1]?=some (.cells (ik A2) 152):=by rw[hW];exact fx _ Y.out.tb.k2
      obtain⟨r0,r1,r2,r3,r4,r5,r6,r7,r8⟩:=bP hq;refine Zb (v:=pE A2) (by simp[results,results199,go_sem,r0,r1,r2,r3,r4,r5,r6,r7,r8]) rfl ?_;rw[c6.out];have M:=Y.out.tr.put (q:=w.heap.size+1+1) ω ω A2;rw[<-hW] at M;exact⟨rfl,a1,Z,M.at_,M.gr⟩
def Gf (p:aO) (hok:iX p) (hp:iM p) (c:dw) (hc:gI c):Ao p c:=by
 intro w sb vb vf e n s h hR;obtain⟨sg,l,m⟩:=c;rcases hc with hs|hs|hs|⟨hs,h0,h3,h1⟩
 .simp only at hs;subst hs
  rw[show eu ⟨42,l,m⟩=1 from rfl,Nat.mul_one] at h;obtain⟨w1,d⟩:=KF p hok hp 42 l m w sb vb vf e n _ s h zq hR;exact Av p l m w w1 sb vb vf e n s h d _ rfl
 .simp only at hs;subst hs
  rw[show eu ⟨43,l,m⟩=1 from rfl,Nat.mul_one] at h;obtain⟨w1,d⟩:=KF p hok hp 43 l m w sb vb vf e n _ s h zq hR;exact Aw p l m w w1 sb vb vf e n s h d _ rfl
 .simp only at hs;subst hs
  rw[show eu ⟨63,l,m⟩=1 from rfl,Nat.mul_one] at h;obtain⟨w1,d⟩:=KF p hok hp 63 l m w sb vb vf e n _ s h zq hR;exact DI p l m w w1 sb vb vf e n s h d _ rfl
 .simp only at hs h0 h3 h1;subst hs
  obtain⟨L,rfl⟩:∃ L:Nat,l=L:=⟨l.toNat,ω⟩
  rcases h1 with rfl|⟨h1,h2⟩
  .rw[show eu ⟨123,L,-1⟩=L+1 by simp[eu]] at h;obtain⟨t1,t2,t3⟩:=At w s 123 (L:Int) (-1);have:=sJ p hok hp L ω w _ sb vb vf e n s h (TR.new h t2 ω) t1 rfl hR _ _ rfl rfl;have e1:dh (bp p) ⟨123,L,-1⟩ e=ei (bp p) L L (bp p e).1.may ((bp p e).2.join (bp p e).1 (bp p e).1):=by
    unfold dh;rw[Zh (show ¬(123:UInt8)=42 by decide),Zh (show ¬(123:UInt8)=43 by decide),Zh (show ¬(123:UInt8)=63 by decide),Zi rfl];simp[cD,FD]
   rw[e1];exact this
  .obtain⟨M,rfl⟩:∃ M:Nat,m=M:=⟨m.toNat,ω⟩
   have hm:¬(M:Int)=-1:=ω;rw[show eu ⟨123,L,M⟩=M by simp[eu,hm]] at h;obtain⟨t1,t2,t3⟩:=At w s 123 (L:Int) (M:Int);have:=xL p hok hp L M ω ω w _ sb vb vf e n s h (TR.new h t2 ω) t1 rfl hR;have e1:dh (bp p) ⟨123,L,M⟩ e=ei (bp p) L M eD e:=by
    unfold dh;rw[Zh (show ¬(123:UInt8)=42 by decide),Zh (show ¬(123:UInt8)=43 by decide),Zh (show ¬(123:UInt8)=63 by decide),Zh hm]
    simp
   rw[e1];exact this
mutual
theorem Gg:∀ p,iX p->iM p
 |.mk g S cs,h=>by
  simp only[iX] at h;exact BZ g S (IT g S (qZ g h.2 (λc hc=>xK c (jm.1 h.2 c hc) (Ax g h.2 c hc)))) (λds c hd hP hc=>Gf (.mk g S ds) (by simp only[iX];exact⟨hd,h.2⟩) hP c hc) (xG g h.2) _ cs rfl h.1
theorem Gh:∀ ps,dW ps->∀ p∈ps,iM p
 |[],_,p,hp=>by simp at hp
 |q::ps,h,p,hp=>by
  simp only[dW] at h;rcases mem_cons.1 hp with he|hp
  .rw[he];exact Gg q h.1
  .exact Gh ps h.2 p hp
theorem Ax:∀ cs,aX cs->∀ c∈cs,∀ p∈c,iM p
 |[],_,c,hc,p,hp=>by simp at hc
 |d::cs,h,c,hc,p,hp=>by
  simp only[aX] at h;rcases mem_cons.1 hc with he|hc
  .rw[he] at hp;exact Gh d h.1 p hp
  .exact Ax cs h.2 c hc p hp
end
def xM (cs:List (List aO)) (h:aX cs):gC cs:=qZ cs h (λc hc=>xK c (jm.1 h c hc) (Ax cs h c hc))
theorem xN (b:Nat):∀(xs:List (Nat->Bool)) (S:Nat->Bool) (i:Nat) (a:W4),nu b (xs++[S]) i a=(if S b then(nu b xs i a).or (fv (i+xs.length)) else nu b xs i a)
 |[],S,i,a=>by simp[nu]
 |T::xs,S,i,a=>by
  simp only[cons_append,nu,length_cons];rw[xN b xs S (i+1)];rw[show i+1+xs.length=i+(xs.length+1) by omega]
theorem vC (b:Nat):∀(xs:List (Nat->Bool)) (i:Nat) (a:W4),i+xs.length<=64->Sp i a->Sp (i+xs.length) (nu b xs i a)
 |[],i,a,_,h=>h
 |S::xs,i,a,hl,h=>by
  simp only[nu];simp only[length_cons] at hl ⊢;rw[show i+(xs.length+1)=i+1+xs.length by omega];refine vC b xs (i+1) _ ω ?_
  split
  .exact(h.mono ω).or (Sp.bit ω)
  .exact h.mono ω
theorem lP.at (h:lP w base v bs)  (hi:i<bs.length):∃ g c,∃ x:W4,v=.slice (some ⟨g,0,none⟩) bs.length c/\base<=g/\gG w g (i*4) x/\Sx.Wd x.x0 x.x1 x.x2 x.x3 bs[i]:=by
 obtain⟨ws,h1,h2,h3⟩:=h;obtain⟨g,c,e,hg,hw⟩:=h1.at (i:=i) ω;exact⟨g,c,ws[i],by rw[e,h2],hg,hw,h3 i ω hi⟩
theorem lP.form (h:lP w base v bs):∃ a c,v=.slice a bs.length c:=by
 obtain⟨ws,h1,h2,h3⟩:=h;obtain⟨a,c,e⟩:=h1.form;exact⟨a,c,by rw[e,h2]⟩
theorem lP.lt (h:lP w base v bs) {b:Nat} (hb:v.ownBlock=some b):base<=b/\b<w.heap.size:=by
 obtain⟨ws,h1,_⟩:=h;exact h1.lt hb
def lP.below (h:lP w base v bs) (hb:Below w.heap.size w w'):lP w' base v bs:=h.blk (λb h1=>hb.block b (h.lt h1).2)
def gG.blk {b off:Nat} (h:gG w b off x) (k:w'.heap[b]?=w.heap[b]?):gG w' b off x:=by
 refine⟨?_,?_,?_,?_,λo=>?_⟩
 .rw[<-h.c0];simp[cell?,k]
 .rw[<-h.c1];simp[cell?,k]
 .rw[<-h.c2];simp[cell?,k]
 .rw[<-h.c3];simp[cell?,k]
 .rw[<-h.fz o];simp[frozen?,k]
def gG.below {b off:Nat} (h:gG w b off x) (hb:Below w.heap.size w w'):gG w' b off x:=h.blk (hb.block b (aF h.c0))
abbrev zW:Array Value:=#[.int .u64 0,.int .u64 0,.int .u64 0,.int .u64 0]
variable (w sb base vb bs) in
def sK (b:Nat) (hb:b<256) (hl:bs.length<=64) (hc:w.cell? ⟨sb,0,none⟩=some vb) (h:lP w base vb bs) :
  Calls prog 127 #[.pointer (some ⟨sb,0,none⟩),.int .u8 b] w λe w'=>e=.returned (nu b bs 0 W4.none).v/\Below w.heap.size w w':=by
 obtain⟨va,vc,rfl⟩:=h.form;have HB:=zh h;obtain⟨w1,r⟩:=zx ((w.alloc (.cells zW 150)).alloc (.cells zW 150));have I:Below w.heap.size w w1:=by rw[r];exact ZA.alloc χ _
 have k0:w1.heap[w.heap.size]?=some (.cells zW 150):=by rw[r,Ze _ _ _ χ];exact Za w _
 have k1:w1.heap[w.heap.size+1]?=some (.cells zW 150):=by
  rw[r];have:=Za (w.alloc (.cells zW 150)) (.cells zW 150)
  simpa using this
 have c1:=cell_below I hc;have HW:=zh r;have HK:Hid (w1.heap[w.heap.size]?=some (.cells zW 150)/\gG w1 (w.heap.size+1) 0 W4.none):=⟨k0,by refine⟨?_,?_,?_,?_,λo=>?_⟩<;>simp[cell?,frozen?,k1,W4.none]⟩
 have O:=zh I;obtain⟨N,hN⟩:=zx bs.length;have HN:=zh hN;rw[<-hN] at c1 hl;have T:((w.alloc (.cells zW 150)).alloc (.cells zW 150)).cell? ⟨sb,0,none⟩=some (.slice va N vc):=by rw[<-r];exact c1
 go_enter func127,ntmps127
 go_wp2
 rw[<-HW.out]
 go_loopw [14] (λi wr=>∃ k:Nat,k<=N/\i=.int .i64 k/\Below w.heap.size w wr/\wr.heap[w.heap.size]?=some (.cells zW 150)/\gG wr (w.heap.size+1) 0 (nu b (bs.take k) 0 W4.none)) (λi _=>N-(intOf i).toNat)
 case atStart=>exact⟨0,ω,rfl,O,HK.1,HK.2⟩
 case round=>
  obtain⟨k,hk,rfl,z,d,u⟩:=hrel;have p:=zh z;have G:=zh d;have m:=zh u;have R:=aF u.c0;have B:Sp k (nu b (bs.take k) 0 W4.none):=by
   have:=vC b (bs.take k) 0 W4.none (by simp;have:=HN;omega) (Sp.none 0);rw[Nat.zero_add,length_take,Nat.min_eq_left (η HN.out)] at this;exact this
  by_cases hlt:k<N
  .have S:(k:Int)<N:=ω;have F:k<bs.length:=by have:=HN;omega
   obtain⟨g,U,x,e1,hg,hx,hd⟩:=(HB.below z).at F;simp only[Value.slice.injEq,true_and] at e1;obtain⟨rfl,rfl⟩:=e1;obtain⟨x0,x1,x2,x3,-⟩:=hx;have P:Below wr.heap.size wr (wr.alloc (.cells #[.int .u64 (x.x0:Int),.int .u64 (x.x1:Int),.int .u64 (x.x2:Int),.int .u64 (x.x3:Int)] 226)):=ZA;have j:=Sx.uJ (.inl rfl) (wr.alloc (.cells #[.int .u64 (x.x0:Int),.int .u64 (x.x1:Int),.int .u64 (x.x2:Int),.int .u64 (x.x3:Int)] 226)) x.x0 x.x1 x.x2 x.x3 b bs[k] hb hd;have f:Hid (nu b (bs.take (k+1)) 0 W4.none=(if bs[k] b then(nu b (bs.take k) 0 W4.none).or (fv k) else nu b (bs.take k) 0 W4.none)):=by
    show _=_;rw[Zl F,xN,length_take,Nat.min_eq_left ω,Nat.zero_add]
   obtain⟨A,hA⟩:=zx (nu b (bs.take k) 0 W4.none);rw[<-hA] at f m B;have D:=B.ok ω;have J:=zh P
   cases hbit:bs[k] b with
   |false=>
    rw[hbit] at j f;simp only[Bool.false_eq_true,if_false] at f;go_wp2_with (go_at_call 177;refine j.mono ?_;rintro e w2 ⟨rfl,l⟩;have c:=zh (J.trans (l.mono χ)))
    go_roundw
    case rel=>exact⟨k+1,ω,π,p.trans (c.mono p.size),(c.block _ ω).trans G,by rw[f.out];exact m.below c⟩
    case measure=>simp[intOf]<;>omega
   |true=>
    rw[hbit] at j f;simp only[if_true] at f;have E:=λw2 (l:Below wr.heap.size wr w2)=>xw w2 (w.heap.size+1) 0 k A D ω (m.below l)
    go_wp2_with (first|(go_at_call 178;refine(E w2 c).mono ?_;rintro e w3 ⟨rfl,K,C⟩;have L:=zh K;have X:=c.size;have Q:=zh ((C.four.block _ ω ω).trans ((c.block _ ω).trans G));have M:=zh ((p.trans (c.mono p.size)).trans (C.below ω ω)))|(go_at_call 177;refine j.mono ?_;rintro e w2 ⟨rfl,l⟩;have c:=zh (J.trans (l.mono χ));clear l))
    go_roundw
    case rel=>exact⟨k+1,ω,π,M,Q,by rw[f.out];exact L⟩
    case measure=>simp[intOf]<;>omega
  .have V:¬(k:Int)<N:=ω;have HE:Hid (nu b (bs.take k) 0 W4.none=nu b bs 0 W4.none):=by
    show _=_;rw[show k=bs.length by have:=HN.out;omega,take_length]
   obtain⟨A,hA⟩:=zx (nu b (bs.take k) 0 W4.none);rw[<-hA] at m HE;obtain⟨a0,a1,a2,a3,af⟩:=m;have z0:wr.cell? ⟨w.heap.size,0,none⟩=some (.int .u64 0):=by simp[cell?,d]
   have z1:wr.cell? ⟨w.heap.size,1,none⟩=some (.int .u64 0):=by simp[cell?,d]
   have z2:wr.cell? ⟨w.heap.size,2,none⟩=some (.int .u64 0):=by simp[cell?,d]
   have z3:wr.cell? ⟨w.heap.size,3,none⟩=some (.int .u64 0):=by simp[cell?,d]
   have zf:∀ o,wr.frozen? ⟨w.heap.size,o,none⟩=false:=λo=>by simp[frozen?,d]
   clear u z hA B d;go_wp2
   rw[<-HE.out];refine Zb (v:=A.v) (by simp[results,results127,go_sem,z0,z1,z2,z3,W4.v]) rfl ⟨rfl,?_⟩;have:=p;exact((Θ this))
open Go.RowKit Go.Shelf
attribute [local go_sem] Oper.semAt_some
def Sp.andR {s:W4} (t:W4) (h:Sp n s):Sp n (t.and s):=⟨Nat.lt_of_le_of_lt and_le_right h.b,by simp[W4.and,h.z1],by simp[W4.and,h.z2],by simp[W4.and,h.z3]⟩
structure lQ (w:World) (sb:Nat) (vf:Value) (s:Sr):Prop where
 c1:w.cell? ⟨sb,1,none⟩=some vf
 fs:dq 150 w (sb+1) vf s.fs
 f0:w.cell? ⟨sb,2,none⟩=some (.int .u64 (s.whole.first.x0:Int))
 f1:w.cell? ⟨sb,3,none⟩=some (.int .u64 (s.whole.first.x1:Int))
 f2:w.cell? ⟨sb,4,none⟩=some (.int .u64 (s.whole.first.x2:Int))
 f3:w.cell? ⟨sb,5,none⟩=some (.int .u64 (s.whole.first.x3:Int))
 l0:w.cell? ⟨sb,6,none⟩=some (.int .u64 (s.whole.last.x0:Int))
 l1:w.cell? ⟨sb,7,none⟩=some (.int .u64 (s.whole.last.x1:Int))
 l2:w.cell? ⟨sb,8,none⟩=some (.int .u64 (s.whole.last.x2:Int))
 l3:w.cell? ⟨sb,9,none⟩=some (.int .u64 (s.whole.last.x3:Int))
 em:w.cell? ⟨sb,10,none⟩=some (.bool s.whole.empty)
 fr:w.cell? ⟨sb,11,none⟩=some (.bool s.front)
def lQ.keep (h:lQ w sb vf s) (k:w'.heap[sb]?=w.heap[sb]?) (kf:∀ b,vf.ownBlock=some b->w'.heap[b]?=w.heap[b]?):lQ w' sb vf s:=by
 have e:∀ o,w'.cell? ⟨sb,o,none⟩=w.cell? ⟨sb,o,none⟩:=λo=>by simp[cell?,k]
 exact⟨(e _).trans h.c1,h.fs.blk kf,(e _).trans h.f0,(e _).trans h.f1,(e _).trans h.f2,(e _).trans h.f3,(e _).trans h.l0,(e _).trans h.l1,(e _).trans h.l2,(e _).trans h.l3,(e _).trans h.em,(e _).trans h.fr⟩
def lQ.lt (h:lQ w sb vf s):sb<w.heap.size:=aF h.c1
def lQ.below (h:lQ w sb vf s) (hb:Below w.heap.size w w'):lQ w' sb vf s:=h.keep (hb.block _ h.lt) (λb hb'=>hb.block b (h.fs.lt hb').2)
structure Gi (n:Nat) (s:Sr):Prop where
 l:s.fs.length=n
 n64:n<=64
 f:∀ x∈s.fs,Sp n x
 w:eE n s.whole
abbrev Ay (x:W4) (b:Bool):Array Value:=#[.int .u64 (x.x0:Int),.int .u64 (x.x1:Int),.int .u64 (x.x2:Int),.int .u64 (x.x3:Int),.bool b]
def DJ {row:Option Nat}{T:TypeId} (h:W.heap[t]?=some (.cells cs T fr)) (hg:W.grownBy W' row) (hr:∀ r,row=some r->∃ o:Obj,W.heap[r]?=some o/\o.isCells=false):W'.heap[t]?=some (.cells cs T fr):=by
 refine(hg.block t (ZC h) (λe=>?_)).trans h;obtain⟨o,h1,h2⟩:=hr t e.symm;rw[h] at h1;simp at h1;subst h1;cases h2
def pH {T:TypeId} (h:w.heap[t]?=some (.cells (Ay x b) T)):gG w t 0 x:=by
 refine⟨?_,?_,?_,?_,λo=>?_⟩<;>simp[cell?,frozen?,h]
def Gj {cs ds:Array Value} (h1:cs.size=5) (h2:ds.size=5) (h:∀ i,i<5->cs[i]?=ds[i]?):cs=ds:=by
 apply Array.ext_getElem?;intro i
 by_cases hi:i<5
 .exact h i hi
 .simp_all
def xO {T:TypeId} (h:w.heap[t]?=some (.cells (Ay x b) T)) (hx:gG w' t 0 y) (hf:Sx.Fo t 0 w w'):w'.heap[t]?=some (.cells (Ay y b) T):=by
 obtain⟨c,e1,e2⟩:=hf.shp _ _ _ h;rw[e1];have key:∀ i v,w'.cell? ⟨t,i,none⟩=some v->c[i]?=some v:=λi v hv=>by simpa [cell?,e1] using hv
 have hc:c=Ay y b:=by
  refine Gj (by rw[e2];rfl) rfl (λi hi=>?_)
  match i,hi with
  |0,_=>exact key 0 _ hx.c0
  |1,_=>exact key 1 _ hx.c1
  |2,_=>exact key 2 _ hx.c2
  |3,_=>exact key 3 _ hx.c3
  |4,_=>exact key 4 _ ((hf.four.cell 4 ω).trans (by simp[cell?,h]))
 rw[hc]
def q_ {T:TypeId} (h:w.heap[t]?=some (.cells (Ay x b) T)):w.cell? ⟨t,0,none⟩=some (.int .u64 (x.x0:Int))/\w.cell? ⟨t,1,none⟩=some (.int .u64 (x.x1:Int))/\w.cell? ⟨t,2,none⟩=some (.int .u64 (x.x2:Int))/\w.cell? ⟨t,3,none⟩=some (.int .u64 (x.x3:Int))/\w.cell? ⟨t,4,none⟩=some (.bool b):=by
 refine⟨?_,?_,?_,?_,?_⟩<;>simp[cell?,h]
def re {q:Nat}{b0 b1 b2 b3 b4:Value} (a0 a1 a2 a3 a4:Value) {T:TypeId} (h:w.heap[q]?=some (.cells #[b0,b1,b2,b3,b4] T fr)):(((((w.setCell ⟨q,0,none⟩ a0).setCell ⟨q,1,none⟩ a1).setCell ⟨q,2,none⟩ a2).setCell ⟨q,3,none⟩ a3).setCell ⟨q,4,none⟩ a4).heap[q]?=some (.cells #[a0,a1,a2,a3,a4] T fr):=by
 rw[ap (ap (ap (ap (ap h))))]
 simp
variable (fs is i a) in
theorem Az:fC fs (is++[i]) a=(fC fs is a).or (fs.getD i W4.none):=by simp[fC]
def rj (is:List Nat) (h:∀ x∈fs,Sp n x) (ha:Sp n a):Sp n (fC fs is a):=by
 unfold fC
 induction is generalizing a with
 |nil=>exact ha
 |cons i is ih=>
  simp only[foldl_cons];refine ih (ha.or ?_);rw[getD_eq_getElem?_getD]
  cases hi:fs[i]? with
  |none=>exact Sp.none n
  |some x=>exact h x (mem_of_getElem? hi)
structure Lt (W:World) (H sb:Nat) (x y:W4) (b:Bool):Prop where
 k0:W.heap[H]?=some (.cells #[.pointer (some ⟨sb,0,none⟩)] 142)
 k3:W.heap[H+3]?=some (.cells #[.int .u64 0,.int .u64 0,.int .u64 0,.int .u64 0,.bool false] 244)
def Lt.keep (h:Lt W H sb x y b) (k:∀ j,H<=j->j<H+4->W'.heap[j]?=W.heap[j]?):Lt W' H sb x y b:=⟨(k _ ω ω).trans h.k0,(k _ ω ω).trans h.k3⟩
def Lu {w V:World}{D H:Nat} (x:W4) (b:Bool) (hK:V.heap[D]?=some (.deferred (some []))) (hD:D≠H) (hk:V.heap[H]?=some (.cells #[.int .u64 0,.int .u64 0,.int .u64 0,.int .u64 0,.bool false] 244)) (hb:Below w.heap.size w V) (hH:w.heap.size<=H):∃ Wf,Wf=(((((V.setCell ⟨H,0,none⟩ (.int .u64 (x.x0:Int))).setCell ⟨H,1,none⟩ (.int .u64 (x.x1:Int))).setCell ⟨H,2,none⟩ (.int .u64 (x.x2:Int))).setCell ⟨H,3,none⟩ (.int .u64 (x.x3:Int))).setCell ⟨H,4,none⟩ (.bool b))/\Wf.heap[D]?=some (.deferred (some []))/\(Wf.putObj D (.deferred none)).heap[H]?=some (.cells (Ay x b) 244)/\Below w.heap.size w Wf:=
 ⟨_,rfl,(kw V _ _ _ _ _ _ hD).trans hK,(putObj_heap_other (λe=>hD e.symm)).trans (re _ _ _ _ _ hk),((((hb.setCell (p:=⟨H,0,none⟩) hH _).setCell (p:=⟨H,1,none⟩) hH _).setCell (p:=⟨H,2,none⟩) hH _).setCell (p:=⟨H,3,none⟩) hH _).setCell (p:=⟨H,4,none⟩) hH _⟩
def Φ {P U:Prop} (h:U) (k:U->P:=by intro h;(repeat first|(with_reducible refine Below.setCell ?_ (by first|exact zq|(show _<=_;omega)|(simp;done)|(simp;omega)) _)|(with_reducible refine Below.alloc ?_ θ _)|(with_reducible refine Below.drew ?_));exact h):P:=k h
variable (w sb vf s n q qe rd) in
def IV (hT:TabZ w) (h1:1<sb) (h:lQ w sb vf s) (hk:Gi n s) (hq:q.ok) (hrd:Sp n rd) :
  CallsIn Fence.wide 8 prog 132 #[.pointer (some ⟨sb,0,none⟩),.agg (Ay q qe),rd.v] w λe w'=>e=.returned (bq s (fw q qe) rd).v/\Below w.heap.size w w':=by
 have HH:=zh h;have HT:=zh hT;have HK:=zh hk;have d4:=hrd.ok hk.n64;obtain⟨w1,L⟩:=zx ((((w.alloc (.cells #[.pointer (some ⟨sb,0,none⟩)] 142)).alloc (.cells (Ay q qe) 244)).alloc (.cells #[.int .u64 (rd.x0:Int),.int .u64 (rd.x1:Int),.int .u64 (rd.x2:Int),.int .u64 (rd.x3:Int)] 150)).alloc (.cells #[.int .u64 0,.int .u64 0,.int .u64 0,.int .u64 0,.bool false] 244));have g8:Below w.heap.size w w1:=by rw[L];exact((((Below.refl _ w).alloc zq _).alloc χ _).alloc σ _).alloc σ _
 have g6:w1.heap.size=w.heap.size+4:=by rw[L];simp
 have f9:Lt w1 w.heap.size sb q rd qe:=by
  refine⟨by rw[L,Ze _ _ _ σ];exact IG w _ _ _,?_⟩;rw[L];have:=Za (((w.alloc (.cells #[.pointer (some ⟨sb,0,none⟩)] 142)).alloc (.cells (Ay q qe) 244)).alloc (.cells #[.int .u64 (rd.x0:Int),.int .u64 (rd.x1:Int),.int .u64 (rd.x2:Int),.int .u64 (rd.x3:Int)] 150)) (.cells #[.int .u64 0,.int .u64 0,.int .u64 0,.int .u64 0,.bool false] 244)
  simpa using this
 have c2:=oO w1 q rd hq d4;have a3:=hrd.andR q;have f:Hid (bq s (fw q qe) rd=if s.front then fw (fC s.fs (q.and rd).all W4.none) (!((q.and rd).and s.whole.last).isE) else fw ((fC s.fs (q.and rd).all W4.none).or s.whole.first) (!((q.and rd).and s.whole.last).isE||s.whole.empty)):=rfl;obtain⟨A,hA⟩:=zx (q.and rd);rw[<-hA] at c2 a3 f;have f2:=zh a3;have HW:=zh L;have i5:=zh g8;have j2:=zh f9;have j8:=h.lt;clear L g8 f9 h hT hk hA a3;refine callsIn_of_wp_marks func132 rfl trivial ?_ rfl;simp only[ntmps132,size_toArray,length_cons,length_nil,reduceAdd,reduceSub,Array.replicate_succ,Array.replicate_zero,push_toArray,append_toArray,nil_append,cons_append];simp only[W4.v]
 gi_wp2_with (refine⟨trivial,?_⟩;gi_at_call 182;rw[<-HW.out];refine(callsIn_wide.2 c2).mono ?_;rintro e w2 ⟨rfl,e7⟩;have e6:=zh e7;clear e7)
 obtain⟨w3,a2⟩:=zx (w2.alloc (.cells #[.int .u64 (A.x0:Int),.int .u64 (A.x1:Int),.int .u64 (A.x2:Int),.int .u64 (A.x3:Int)] 150));rw[<-a2];have h0:=e6.out.size;have c1:Below w1.heap.size w1 w3:=by rw[a2];exact e6.out.alloc h0 _
 have d5:w3.heap.size=w2.heap.size+1:=by rw[a2];simp
 have kR:w3.heap[w2.heap.size]?=some (.cells #[.int .u64 (A.x0:Int),.int .u64 (A.x1:Int),.int .u64 (A.x2:Int),.int .u64 (A.x3:Int)] 150):=by rw[a2];exact Za w2 _
 have c4:=zh (i5.out.trans (c1.mono ω));have d8:=zh (j2.out.keep (λj h1 h2=>c1.block j ω));have k8:=zh kR;have e5:=zh (HH.out.below c4.out);have J:Hid (∀ w',Below w3.heap.size w3 w'->w'.cell? ⟨w2.heap.size,0,none⟩=some (.int .u64 (A.x0:Int))/\w'.cell? ⟨w2.heap.size,1,none⟩=some (.int .u64 (A.x1:Int))/\w'.cell? ⟨w2.heap.size,2,none⟩=some (.int .u64 (A.x2:Int))/\w'.cell? ⟨w2.heap.size,3,none⟩=some (.int .u64 (A.x3:Int))/\w'.cell? ⟨w.heap.size,0,none⟩=some (.pointer (some ⟨sb,0,none⟩))/\w'.cell? ⟨sb,6,none⟩=some (.int .u64 (s.whole.last.x0:Int))/\w'.cell? ⟨sb,7,none⟩=some (.int .u64 (s.whole.last.x1:Int))/\w'.cell? ⟨sb,8,none⟩=some (.int .u64 (s.whole.last.x2:Int))/\w'.cell? ⟨sb,9,none⟩=some (.int .u64 (s.whole.last.x3:Int))):=λw' hb=>by
  have e1:=hb.block w2.heap.size ω;have e2:=hb.block w.heap.size ω;have hs:=e5.out.below hb;refine⟨?_,?_,?_,?_,?_,hs.l0,hs.l1,hs.l2,hs.l3⟩
  .simp[cell?,e1,kR]
  .simp[cell?,e1,kR]
  .simp[cell?,e1,kR]
  .simp[cell?,e1,kR]
  .simp[cell?,e2,d8.out.k0]
 have Z:=f2.out.ok HK.out.n64;have g5:=HK.out.w.l.ok HK.out.n64;obtain⟨Y,hY⟩:=zx (A.and s.whole.last);have b4:Y.ok:=by rw[hY];exact W4.and_ok Z
 have a1:=λw'=>oO w' A s.whole.last Z g5
 simp only[<-hY] at a1;rw[<-hY] at f;obtain⟨en,c8⟩:=zx Y.isE;have R:=λw'=>zG w' Y b4
 simp only[<-c8] at R;rw[<-c8] at f;have c7:=zh d5;have d2:=zh g6;clear a2 c1 c2 kR hY c8 d5 g6
 gi_cut [8] from 14 (λs8 wc=>∃ t,s8=.pointer (some ⟨t,0,none⟩)/\w3.heap.size<=t/\wc.heap[t]?=some (.cells #[.int .u64 0,.int .u64 0,.int .u64 0,.int .u64 0,.bool (!en)] 244)/\Below w3.heap.size w3 wc)
 case first=>
  refine wpIn_wide.2 ?_
  go_region_held3 (λw'=>w'.cell? ⟨w2.heap.size,0,none⟩=some (.int .u64 (A.x0:Int))/\w'.cell? ⟨w2.heap.size,1,none⟩=some (.int .u64 (A.x1:Int))/\w'.cell? ⟨w2.heap.size,2,none⟩=some (.int .u64 (A.x2:Int))/\w'.cell? ⟨w2.heap.size,3,none⟩=some (.int .u64 (A.x3:Int))/\w'.cell? ⟨w.heap.size,0,none⟩=some (.pointer (some ⟨sb,0,none⟩))/\w'.cell? ⟨sb,6,none⟩=some (.int .u64 (s.whole.last.x0:Int))/\w'.cell? ⟨sb,7,none⟩=some (.int .u64 (s.whole.last.x1:Int))/\w'.cell? ⟨sb,8,none⟩=some (.int .u64 (s.whole.last.x2:Int))/\w'.cell? ⟨sb,9,none⟩=some (.int .u64 (s.whole.last.x3:Int))) (first|exact J.out _ ((Φ ZB))|exact J.out _ ((Φ a5.out))|exact J.out _ ((Φ I.out))) (first|(go_at_call 183;refine(R _).mono ?_;rintro e w5 ⟨rfl,a6⟩;have a5:Hid (Below w3.heap.size w3 w5):=(by first|exact I.out.trans (a6.mono I.out.size)|exact(I.out.alloc I.out.size _).trans (a6.mono (by have:=I.out.size;simp;omega)));have d7:w3.heap.size<=w5.heap.size:=a5.out.size;(first|(have G:=(a6.block w3.heap.size h3.out).trans d9.out;have a7:=zh G;obtain⟨t0,t1,t2,t3,t4⟩:=fQ G;have tf:∀ o,w5.frozen? ⟨w3.heap.size,o,none⟩=false:=(λo=>by simp[frozen?,a7.out]);clear G)|(have G:=(a6.block _ χ).trans (Za w4 _);have a7:=zh G;obtain⟨t0,t1,t2,t3,t4⟩:=fQ G;have tf:∀ o,w5.frozen? ⟨w4.heap.size,o,none⟩=false:=(λo=>by simp[frozen?,a7.out]);clear G)|skip);clear a6)|(go_at_call 182;refine(a1 _).mono ?_;rintro e w4 ⟨rfl,b1⟩;have I:Hid (Below w3.heap.size w3 w4):=(by first|exact ZB.drew.trans (b1.mono χ)|exact(ZA.drew).trans (b1.mono χ));have i2:w3.heap.size<=w4.heap.size:=I.out.size;(first|(have d9:=zh ((b1.block _ χ).trans (Za w3 _));have h3:=zh ((ZC d9.out)))|skip);clear b1))
  .gi_wp2
   gi_meet
   exact⟨_,rfl,d7,Za w5 _,a5.out.alloc d7 _⟩
  .gi_wp2
   gi_meet
   exact⟨_,rfl,i2,re _ _ _ _ _ a7.out,(Φ a5.out)⟩
  .gi_wp2
   gi_meet
   exact⟨_,rfl,zq,re _ _ _ _ _ a7.out,(Φ a5.out)⟩
 case rest=>
  obtain⟨t,rfl,ht,d,z⟩:=hcut;have i6:=zh d;have i8:=zh z;have f8:=zh ((ZC d));have j5:=zh ht;have j1:=zh (e5.out.below z);have i1:=zh (d8.out.keep (λj h1 h2=>z.block j (ξ c7.out d2.out)));have b7:=zh (c4.out.trans (z.mono c4.out.size));have hr:=J.out wc z;obtain⟨r0,r1,r2,r3,-⟩:=hr;clear a1 R b4 z d ht
  gi_wp2_with (refine⟨trivial,?_⟩;gi_at_call 184;refine(all_in _ A _).mono ?_;rintro e w' ⟨rfl,h5⟩;subst h5)
  obtain⟨w6,Q⟩:=zx (wc.alloc (.cells #[.int .u64 (A.x0:Int),.int .u64 (A.x1:Int),.int .u64 (A.x2:Int),.int .u64 (A.x3:Int)] 150));have N:Below wc.heap.size wc w6:=by rw[Q];exact ZA
  have k2:w6.heap.size=wc.heap.size+1:=by rw[Q];simp
  have j6:w6.heap[wc.heap.size]?=some (.cells #[.int .u64 (A.x0:Int),.int .u64 (A.x1:Int),.int .u64 (A.x2:Int),.int .u64 (A.x3:Int)] 150):=by rw[Q];exact Za wc _
  rw[<-Q];clear Q;have f1:=b7.out.size;have i4:1<wc.heap.size:=by have:=HT.out.lt;omega
  have f0:=HT.out.keep ((N.block 1 i4).trans (b7.out.block 1 HT.out.lt));have e4:=zh (j1.out.below N);have e3:=zh (i1.out.keep (λj h1 h2=>N.block j (by have:=i8.out.size;have:=c7.out;have:=d2.out;omega)));have j0:=zh ((N.block t f8.out).trans i6.out);have U:=zh (b7.out.trans (N.mono f1));have f3:∀ i∈A.all,i<s.fs.length:=λi hi=>by rw[HK.out.l];exact f2.out.lt HK.out.n64 i hi
  have h4:w.heap.size+4<t:=by have:=j5.out;have:=c7.out;have:=d2.out;omega
  have l2:=zh h4;have m:=zh f8.out;have a9:∀ b,vf.ownBlock=some b->sb+1<=b/\b<w.heap.size:=λb hb=>HH.out.fs.lt hb
  refine wpIn_rangeFunc_ownF (α:={x:Nat // x∈A.all}) rfl ω (gf:=200) (lb:=#[.pointer (some ⟨wc.heap.size,0,none⟩)]) rfl trivial (enters_of func200 κ rfl)
   (oQ (8-1) ω wc.heap.size A Z w6 f0 j6) (λh k=>h.trans k) (Lr ω ω) ZB (λ_=>rfl)
   (λM W=>W.heap[t]?=some (.cells (Ay (fC s.fs (M.map Subtype.val) W4.none) (!en)) 244)/\cd (λb=>b=t) w6 W)
   (λ_ _ _=>False)
   (OwnFrom.and (λs A B row hs hg hr=>DJ hs hg (λr e=>(hr r e).2)) (oR zq))
   (λ_ _ _ _ _ hs _ _=>hs)
   ⟨j0.out,cd.refl _ _⟩
   (λx=>{tmps:=#[.pointer (some ⟨sb,0,none⟩),.agg (Ay q qe),lW rd.x0 rd.x1 rd.x2 rd.x3,.pointer (some ⟨w.heap.size,0,none⟩),.pointer (some ⟨w.heap.size+1,0,none⟩),.pointer (some ⟨w.heap.size+1+1,0,none⟩),.pointer (some ⟨w.heap.size+1+1+1,0,none⟩),.pointer (some ⟨w2.heap.size,0,none⟩),.pointer (some ⟨t,0,none⟩),.int .u8 (x.val:Int),.pointer (some ⟨w.heap.size+1,0,none⟩),.agg #[.int .u64 (q.x0:Int),.int .u64 (q.x1:Int),.int .u64 (q.x2:Int),.int .u64 (q.x3:Int)],.agg #[.int .u64 (rd.x0:Int),.int .u64 (rd.x1:Int),.int .u64 (rd.x2:Int),.int .u64 (rd.x3:Int)],lW A.x0 A.x1 A.x2 A.x3,u14,u15,u16,u17,u18,u19,u20,u21,u22,u23,.agg #[.int .u64 (A.x0:Int),.int .u64 (A.x1:Int),.int .u64 (A.x2:Int),.int .u64 (A.x3:Int)],.func (.func 200) #[] #[.pointer (some ⟨wc.heap.size,0,none⟩)],.int .u8 (x.val:Int),u27,u28,u29,u30,u31,u32,u33,u34,u35,u36,u37,u38,u39,u40,u41,u42,u43,u44,u45,u46,u47,u48,u49,u50,u51,u52,u53,u54,u55,u56,u57,u58,u59],defers:=[]}) ?assign ?body ?done ?stop
  case assign=>
   intro l x W K hK
   gi_wp2
   exact hK
  case body=>
   rintro l M x W ⟨d,hE⟩ _;obtain⟨k,hk⟩:=x;have S:=f3 k hk;obtain⟨B,hB⟩:=zx (fC s.fs (M.map Subtype.val) W4.none);rw[<-hB] at d;have T:Sp n B:=by rw[hB];exact rj _ HK.out.f (Sp.none n)
   have e9:Hid (fC s.fs ((M++[(⟨k,hk⟩:{x:Nat // x∈A.all})]).map Subtype.val) W4.none=B.or s.fs[k]):=by
    show _=_;rw[map_append,map_cons,map_nil,Az,hB,getD_eq_getElem?_getD,Zj S];rfl
   have f7:=(HK.out.f _ (Zg S)).ok HK.out.n64;have E:=cK W t 0 B s.fs[k] (T.ok HK.out.n64) f7 (pH d);have u:∀ b,b<w6.heap.size->b≠t->W.heap[b]?=w6.heap[b]?:=λb hb z=>hE.block b hb z
   have c0:=e4.out.keep (u sb ω ω) (λb hb=>u b (η (a9 b hb)) (η (a9 b hb)));obtain⟨g,l1,rfl,hg,g7⟩:=c0.fs.at S;have d1:=c0.c1;have d0:W.cell? ⟨w.heap.size,0,none⟩=some (.pointer (some ⟨sb,0,none⟩)):=by
    have:=u w.heap.size ω ω;simp[cell?,this,e3.out.k0]
   obtain⟨g0,g1,g2,g3,-⟩:=g7;obtain⟨F,hF⟩:=zx s.fs.length;rw[<-hF] at d1;have k7:(k:Int)<F:=ω;have k6:k<F:=ω;have f6:Hid (∀ w2',gG w2' t 0 (B.or s.fs[k])->Sx.Fo t 0 W w2'->KeepsOthers W w2'/\Kz wc.heap.size W w2'/\w2'.heap[t]?=some (.cells (Ay (fC s.fs ((M++[(⟨k,hk⟩:{x:Nat // x∈A.all})]).map Subtype.val) W4.none) (!en)) 244)/\cd (λb=>b=t) w6 w2'):=λw2' hx hf=>by
    have k0:=hE.size;refine⟨hf.others (pH d).c0,⟨hf.four.size,hf.four.block 1 ω ω,hf.four.block _ ω (η m.out)⟩,?_,hE.trans hf.exc⟩;rw[e9.out];exact xO d hx hf
   clear hB T f7 u c0 hE hF
   gi_wp2_with (refine⟨trivial,?_⟩;gi_at_call 125;refine(CallsIn.inRound l (callsIn_wide.2 E)).mono ?_;rintro e w7 ⟨rfl,i7,i0⟩)
   exact f6.out _ i7 i0
  case done=>
   rintro D ys W hD f4 ⟨d,hE⟩ hK;obtain⟨B,hB⟩:=zx (fC s.fs A.all W4.none);rw[f4,<-hB] at d;rw[<-hB] at f;have T:Sp n B:=by rw[hB];exact rj _ HK.out.f (Sp.none n)
   have f5:=hE.size;have u:∀ b,b<w6.heap.size->b≠t->W.heap[b]?=w6.heap[b]?:=λb hb z=>hE.block b hb z
   have O:=zh (e4.out.keep (u sb ω ω) (λb hb=>u b (η (a9 b hb)) (η (a9 b hb))));have X:=zh (e3.out.keep (λj h1 h2=>u j (η m.out) ω));have b6:=zh d;have c9:Hid (Below w.heap.size w W):=⟨hE.os.trans U.out.os,hE.tape.trans U.out.tape,hE.output.trans U.out.output,Zc U.out.size f5,λb hb=>(u b ω ω).trans (U.out.block b hb)⟩
   have i3:=zh T;have g4:=O.out.fr;have d0:W.cell? ⟨w.heap.size,0,none⟩=some (.pointer (some ⟨sb,0,none⟩)):=by simp[cell?,X.out.k0]
   obtain⟨t0,t1,t2,t3,t4⟩:=q_ d;obtain⟨z0,z1,z2,z3,z4⟩:=fQ X.out.k3;have zf:∀ o,W.frozen? ⟨w.heap.size+3,o,none⟩=false:=λo=>by simp[frozen?,X.out.k3]
   clear f4 d hE u hB T f0 j6 N
   cases hfe:s.front with
   |true=>
    rw[hfe] at g4 f;simp only[if_true] at f
    gi_wp2
    have P:D≠w.heap.size+3:=by have:=m.out;omega
    obtain⟨Wf,c6,a4,b5,b8⟩:=Lu (V:=W) (w:=w) B (!en) hK P X.out.k3 c9.out ω;rw[<-c6];obtain⟨q0,q1,q2,q3,q4⟩:=q_ b5;refine⟨χ,.inl ⟨_,_,rfl,run_takeDeferred a4,?_⟩⟩;refine⟨(fw (B) ((!en))).v,?_,by rw[f.out],b8.trans (belowK_b (w:=w) zq Wf D _ _ (η m.out) a4 rfl rfl)⟩;simp[results,f132,go_sem,q0,q1,q2,q3,q4,fZ.v,fw]
   |false=>
    rw[hfe] at g4 f;simp only[Bool.false_eq_true,if_false] at f;have l0:=O.out.f0;have l3:=O.out.f1;have k3:=O.out.f2;have k1:=O.out.f3;have d6:=HK.out.w.f.ok HK.out.n64;have E:=cK W t 0 B s.whole.first (i3.out.ok HK.out.n64) d6 (pH b6.out);have i9:=zh hK;have c3:Hid (∀ W2,gG W2 t 0 (B.or s.whole.first)->Sx.Fo t 0 W W2->W2.heap[t]?=some (.cells (Ay (B.or s.whole.first) (!en)) 244)/\W2.heap[D]?=some (.deferred (some []))/\Below w.heap.size w W2/\Lt W2 w.heap.size sb q rd qe/\W2.heap[sb]?=W.heap[sb]?):=λW2 hx hf=>by
     have k4:=c9.out.size;have k9:=m.out;refine⟨xO b6.out hx hf,(hf.others (pH b6.out).c0).same D _ i9.out rfl,c9.out.trans (hf.below ω ω),X.out.keep (λj h1 h2=>hf.four.block j ω ω),hf.four.block sb ω ω⟩
    obtain⟨C,hC⟩:=zx (B.or s.whole.first);rw[<-hC] at f E c3;have j7:¬ w.heap.size=t:=ω;have j4:¬ w.heap.size+1+1+1=t:=ω;have g9:¬ t=w.heap.size+1+1+1:=ω;have j9:¬ sb=t:=ω;have h9:Hid (∀ W2:World,W2.heap[sb]?=W.heap[sb]?->W2.cell? ⟨sb,10,none⟩=some (.bool s.whole.empty)):=λW2 e=>by rw[<-O.out.em];simp[cell?,e]
    clear hC hK z0 z1 z2 z3 z4 zf;obtain⟨ev,b0⟩:=zx ((!en||s.whole.empty));rw[<-b0] at f
    cases en
    all_goals
     simp only[Bool.not_false,Bool.not_true,Bool.true_or,Bool.false_or] at b0 c3 t4;have j3:Hid _:=b0;clear b0
     gi_wp2_with (refine⟨trivial,?_⟩;gi_at_call 125;refine(callsIn_wide.2 E).mono ?_;rintro e W2 ⟨rfl,d3,b2⟩;obtain⟨n1,n2,n3,n4,n5⟩:=c3.out W2 d3 b2;have h7:Hid _:=n1;have h6:=zh n2;have h8:=zh n3;have b9:=zh n4;have e0:W2.cell? ⟨w.heap.size,0,none⟩=some (.pointer (some ⟨sb,0,none⟩)):=(by simp[cell?,b9.out.k0]);have k5:=h9.out W2 n5;obtain⟨s0,s1,s2,s3,s4⟩:=q_ n1;have sf:∀ o,W2.frozen? ⟨t,o,none⟩=false:=(λo=>by simp[frozen?,h7.out]);obtain⟨z0,z1,z2,z3,z4⟩:=fQ n4.k3;have zf:∀ o,W2.frozen? ⟨w.heap.size+3,o,none⟩=false:=(λo=>by simp[frozen?,b9.out.k3]);clear n1 n2 n3 n4 n5 d3 b2 t0 t1 t2 t3 t4)
     obtain⟨W3,a8⟩:=zx (W2.setCell ⟨t,4,none⟩ (.bool ev));have P:D≠w.heap.size+3:=by have:=m.out;omega
     obtain⟨Wf,c6,a4,b5,b8⟩:=Lu (V:=W3) (w:=w) C ev (by rw[a8];exact(KeepsOthers.setCell W2 ⟨t,4,none⟩ (.bool ev)).same D _ h6.out rfl) P (by rw[a8,ah _ _ _ _ ω];exact b9.out.k3) (by rw[a8];exact h8.out.setCell (p:=⟨t,4,none⟩) (show w.heap.size<=t by omega) _) ω;have b3:=c6;rw[a8,j3.out] at b3;rw[<-b3];obtain⟨q0,q1,q2,q3,q4⟩:=q_ b5;refine⟨χ,.inl ⟨_,_,rfl,run_takeDeferred a4,?_⟩⟩;refine⟨(fw C ev).v,?_,by rw[f.out],b8.trans (belowK_b (w:=w) zq Wf D _ _ (η m.out) a4 rfl rfl)⟩;simp[results,f132,go_sem,q0,q1,q2,q3,q4,fZ.v,fw]
  case stop=>
   rintro D c M W _ _ h _;exact h.elim
variable (w sb vf s n q qe rd) in
def Gk (hT:TabZ w) (h1:1<sb) (h:lQ w sb vf s) (hk:Gi n s) (hq:q.ok) (hrd:Sp n rd) :
  Calls prog 132 #[.pointer (some ⟨sb,0,none⟩),.agg (Ay q qe),rd.v] w λe w'=>e=.returned (bq s (fw q qe) rd).v/\Below w.heap.size w w':=callsIn_wide.1 (IV w sb vf s n q qe rd hT h1 h hk hq hrd)
end Go.Proofs.YtbjabpodkaokjaaGreatDoor
