import Derived.Test.YtbjabpodkaokjaaGreatDoorCC16
set_option linter.all false
set_option maxHeartbeats 4000000
set_option maxRecDepth 100000
open List Nat Go.World Go.Proofs.Tryz
namespace Go.Proofs.YtbjabpodkaokjaaGreatDoor
open Go.RowKit
open Sx (aO dw)
variable {sb:Nat}{w:World}{vb vf:Value}{e:Ex}{r:Pc}{l m:Int}{W:World}{vb' vf':Value}{W' w1:World}
theorem iC (g:Pc->Mk):∀(k:Nat) (r:Pc) (e:Ex),aC g (k+1) r e=g (aC g k r e).1 (aC g k r e).2
 |0,r,e=>rfl
 |k+1,r,e=>by
  have:=iC g k (g r e).1 (g r e).2;simp only[aC] at this ⊢;exact this
structure BS (sb:Nat) (w:World) (vb vf:Value) (W:World) (vb' vf':Value) (e:Ex) (r:Pc) (s:Sx.cj) (l m:Int):Prop where
 tr:TR 4 sb w vb vf W vb' vf' e
 tb:TB W w.heap.size s 123 l m
 rb:W.heap[w.heap.size+3]?=some (.cells (ik r) 152)
theorem BS.below {s:Sx.cj} (h:BS sb w vb vf W vb' vf' e r s l m) (hb:Below W.heap.size W W'):BS sb w vb vf W' vb' vf' e r s l m:=by
 have:=h.tr.sz;exact⟨h.tr.below hb,h.tb.keep (λj h1 h2=>hb.block j ω),(hb.block _ ω).trans h.rb⟩
theorem BS.call {vb' vf' vb2 vf2:Value}{e e2:Ex}{s:Sx.cj} (h:BS sb w vb vf W vb' vf' e r s l m) (hx:ch W' sb vb2 vf2 e2) (hg:gj sb W vb' vf' W' vb2 vf2):BS sb w vb vf W' vb2 vf2 e2 r s l m:=
 ⟨h.tr.call hx hg,h.tb.keep (λj h1 h2=>h.tr.same hg h1 ω),(h.tr.same hg ω ω).trans h.rb⟩
theorem BS.put {s:Sx.cj} (h:BS sb w vb vf W vb' vf' e r s l m) (r':Pc):BS sb w vb vf (S9 W (w.heap.size+3) r') vb' vf' e r' s l m:=
 ⟨h.tr.put ω ω r',h.tb.keep (λj h1 h2=>vw _ _ _ ω),fx _ h.rb⟩
def BS.fz {s:Sx.cj} (h:BS sb w vb vf W vb' vf' e r s l m) (o:Nat):W.frozen? ⟨w.heap.size+3,o,none⟩=false:=by simp[frozen?,h.rb]
def Ge {s:Sx.cj} (ht:TR 3 sb w vb vf w1 vb vf e) (hn:∀ b,eJ sb vb vf b->sb<=b/\b<w.heap.size) (hs:w1.heap.size=w.heap.size+3) (hb:TB w1 w.heap.size s 123 l m) {cs:Array Value} (hc:cs=ik r):BS sb w vb vf (w1.alloc (.cells cs 152)) vb vf e r s l m:=by
 have a:Below w1.heap.size w1 (w1.alloc (.cells cs 152)):=ZA;have h3:=ht.below a;refine⟨⟨h3.at_,h3.gr,λb hb=>.inl (hn b hb),σ⟩,hb.al _,?_⟩;have:=Za w1 (.cells cs 152);rw[hs] at this;rw[this,hc]
structure K2 (n:Nat) (e:Ex) (r:Pc):Prop where
 e:dE n e
 r:eE n r
def xL (p:aO) (hok:iX p) (hp:iM p) (L M:Nat) (hLM:L<=M) (hM30:M<=30) (w w1:World) (sb:Nat) (vb vf:Value) (e:Ex) (n:Nat) (s:Sx.cj) (h:jG w sb vb vf e n (bJ p*M)) (ht:TR 3 sb w vb vf w1 vb vf e) (hb:TB w1 w.heap.size s 123 L M) (hew:w1=tW w s 123 L M) (hR:Sx.eY w (λg=>g<sb) p s.cells) :
  Calls prog 199 #[.pointer (some ⟨sb,0,none⟩),s.val,.agg #[.int .u8 123,.int .i64 L,.int .i64 M]] w (gW sb w vb vf (ei (bp p) L M eD e)):=by
 have c7:w1.heap.size=w.heap.size+3:=by rw[hew];simp
 have HH:=zh h;have HW:Hid (w1=((w.alloc (.cells #[.slice s.q0 s.q1 s.q2,.int .u64 s.y0,.int .u64 s.y1,.int .u64 s.y2,.int .u64 s.y3,.slice s.r0 s.r1 s.r2] 231)).alloc (.cells #[.int .u8 123,.int .i64 L,.int .i64 M] 282)).alloc (.cells zC 152)):=hew;have d0:Hid (∀ cs r,cs=ik r->BS sb w vb vf (w1.alloc (.cells cs 152)) vb vf e r s L M):=λcs r hc=>Ge ht (λb hb=>h.lt hb) c7 hb hc
 have d4:(((M:Int)==-1):Bool)=false:=χ;have HR:Hid (Sx.eY w (λg=>g<sb) p s.cells):=hR;clear hew h ht hb hR
 go_enter func199,ntmps199
 go_wp2
 go_region
 rw[<-HW.out];obtain⟨W0,a1⟩:=zx ((w1.alloc (.cells #[.int .u64 0,.int .u64 0,.int .u64 0,.int .u64 0,.int .u64 0,.int .u64 0,.int .u64 0,.int .u64 0,.bool true] 152)).drew);rw[<-a1];have O:=(d0 #[.int .u64 0,.int .u64 0,.int .u64 0,.int .u64 0,.int .u64 0,.int .u64 0,.int .u64 0,.int .u64 0,.bool true] eD rfl).below (show Below _ _ (w1.alloc (.cells #[.int .u64 0,.int .u64 0,.int .u64 0,.int .u64 0,.int .u64 0,.int .u64 0,.int .u64 0,.int .u64 0,.bool true] 152)).drew from ZB.drew);rw[<-a1] at O;have c6:=zh O;obtain⟨c0,c1,c2⟩:=dL O.tb.k1;have a4:=zh HH.le;have T:Hid (K2 n e eD):=⟨HH.ok,eE.n _⟩
 have a9:Hid (∀ k,k<=M-L->K2 (n+bJ p*k) (aC (λr=>cD (aA (bp p) r)) k eD e).2 (aC (λr=>cD (aA (bp p) r)) k eD e).1):=λk hk=>by
  have:=gH (g:=λr=>cD (aA (bp p) r)) (k:=bJ p) (λn e r hn he hr=>⟨(dV (fK p hok) hn he hr).1,(dV (fK p hok) hn he hr).2.may⟩) k n e eD (by have:=a4.out;have:bJ p*k<=bJ p*M:=mul_le_mul_left _ ω;omega) T.e T.r;exact⟨this.1,this.2⟩
 clear O a1;go_wp2
 go_loopw [49] (λi wr=>∃(k:Nat) (vb' vf':Value),k<=M-L/\i=.int .i64 k/\BS sb w vb vf wr vb' vf' (aC (λr=>cD (aA (bp p) r)) k eD e).2 (aC (λr=>cD (aA (bp p) r)) k eD e).1 s L M) (λi _=>M-L-(intOf i).toNat)
 case atStart=>exact⟨0,_,_,ω,rfl,c6⟩
 case round=>
  clear c0 c1 c2;obtain⟨k,c9,c3,hk,rfl,a⟩:=hrel;have c:=a9 k hk;have u:Hid (aC (λr=>cD (aA (bp p) r)) (k+1) eD e=(((bp p (aC (λr=>cD (aA (bp p) r)) k eD e).2).1.join (aC (λr=>cD (aA (bp p) r)) k eD e).1).may,(bp p (aC (λr=>cD (aA (bp p) r)) k eD e).2).2.join (bp p (aC (λr=>cD (aA (bp p) r)) k eD e).2).1 (aC (λr=>cD (aA (bp p) r)) k eD e).1)):=by show _=_;rw[iC];rfl
  have d:Hid (k=M-L->aC (λr=>cD (aA (bp p) r)) (M-L) eD e=((aC (λr=>cD (aA (bp p) r)) k eD e).1,(aC (λr=>cD (aA (bp p) r)) k eD e).2)):=λhk=>by rw[hk]
  obtain⟨A,hA⟩:=zx ((aC (λr=>cD (aA (bp p) r)) k eD e).1);obtain⟨E,hE⟩:=zx ((aC (λr=>cD (aA (bp p) r)) k eD e).2);rw[<-hA,<-hE] at a c u d;have c8:=zh a;have G:=zh c;obtain⟨p0,p1,p2,p3,p4,p5⟩:=lX a.tb.k0;obtain⟨c0,c1,c2⟩:=dL a.tb.k1;obtain⟨b0,b1,b2,b3,b4,b5,b6,b7,b8⟩:=bP a.rb
  by_cases hlt:k<M-L
  .have d3:(k:Int)<(M:Int)-(L:Int):=ω;have y:n+bJ p*k+bJ p<=64:=by
    have:=a4.out;have h2:bJ p*(k+1)<=bJ p*M:=mul_le_mul_left _ ω;rw[mul_succ] at h2;omega
   have B:=a.tr.beg HH c.e y;have f:=hp wr.drew sb c9 c3 E (n+bJ p*k) s (B.below ZB.drew) (dK HR ((a.tr.bl HH).trans ZB.drew));have o:=fK p hok (n+bJ p*k) E y c.e;obtain⟨X,hX⟩:=zx (bp p E);rw[<-hX] at f o u;have Y:=zh (a.below ZB.drew);have z:=zh o;have Z:=zh y;clear a c o hX hA hE y B d;go_wp2
   go_region_with (first|(go_at_call 210;refine(lE w3 (X.1.join A)).mono ?_;rintro r w4 ⟨rfl,b9⟩;have a2:=zh (J.below b9);obtain⟨f0,f1,f2,f3,f4,f5,f6,f7,f8⟩:=bP a2.rb;have ff:=a2.fz;clear b9)|(go_at_call 175;refine(mX w2 sb D C X.2 X.1 A (n+bJ p*k+bJ p) (x.tr.tz HH) HH.s1 x.tr.at_ Z z.1 z.2 (G.r.mono ω)).mono ?_;rintro r w3 ⟨rfl,H,I⟩;have J:=zh (x.call H I);clear H I)|(go_at_call 176;refine f.mono ?_;rintro r w2 ⟨rfl,D,C,F,N⟩;have x:=zh (Y.call F N);obtain⟨g0,g1,g2,g3,g4,g5,g6,g7,g8⟩:=bP x.rb;clear F N))
   all_goals (
    obtain⟨W,hW⟩:=zx (S9 w4 (w.heap.size+1+1+1) (X.1.join A).may);have t:=hW;simp only[S9] at t;rw[<-t];have a3:Hid (BS sb w vb vf W D C (X.2.join X.1 A) (X.1.join A).may s L M):=by rw[hW];exact a2.put _
    clear hW t f0 f1 f2 f3 f4 f5 f6 f7 f8 ff;go_wp2
    go_roundw
    case rel=>exact⟨k+1,D,C,ω,π,by rw[u.out];exact a3⟩
    case measure=>simp[intOf]<;>omega)
  .have d6:¬(k:Int)<(M:Int)-(L:Int):=ω;have c4:k=M-L:=ω;have d1:Hid (ei (bp p) L M eD e=aC (aA (bp p)) L A E):=by
    show _=_;unfold ei;rw[d.out c4]
   have a5:n+bJ p*k+bJ p*L<=64:=by
    have:=a4.out;have h2:bJ p*k+bJ p*L=bJ p*M:=by rw[<-Nat.mul_add];congr 1;omega
    omega
   have U:Hid (∀ j,j<=L->K2 (n+bJ p*k+bJ p*j) (aC (aA (bp p)) j A E).2 (aC (aA (bp p)) j A E).1):=λj hj=>by
    have:=gH (g:=aA (bp p)) (k:=bJ p) (λn e r hn he hr=>dV (fK p hok) hn he hr) j (n+bJ p*k) E A (by have:bJ p*j<=bJ p*L:=mul_le_mul_left _ hj;omega) G.e G.r;exact⟨this.1,this.2⟩
   have a6:=zh a5;obtain⟨n1,S⟩:=zx (n+bJ p*k);rw[<-S] at U a6;clear a c hA hE u d a5 S p0 p1 p2 p3 p4 p5 b0 b1 b2 b3 b4 b5 b6 b7 b8;go_wp2
   rename World=>wx
   go_loopw [61] (λi wr=>∃(j:Nat) (vb' vf':Value),j<=L/\i=.int .i64 j/\BS sb w vb vf wr vb' vf' (aC (aA (bp p)) j A E).2 (aC (aA (bp p)) j A E).1 s L M) (λi _=>L-(intOf i).toNat)
   case atStart=>exact⟨0,_,_,ω,rfl,c8⟩
   case round=>
    clear c0 c1 c2;obtain⟨j,R,Q,hj,rfl,a⟩:=hrel;have c:=U j hj;have u:Hid (aC (aA (bp p)) (j+1) A E=((bp p (aC (aA (bp p)) j A E).2).1.join (aC (aA (bp p)) j A E).1,(bp p (aC (aA (bp p)) j A E).2).2.join (bp p (aC (aA (bp p)) j A E).2).1 (aC (aA (bp p)) j A E).1)):=by show _=_;rw[iC];rfl
    have d:Hid (j=L->aC (aA (bp p)) L A E=((aC (aA (bp p)) j A E).1,(aC (aA (bp p)) j A E).2)):=λhk=>by rw[hk]
    obtain⟨A2,hA⟩:=zx ((aC (aA (bp p)) j A E).1);obtain⟨E2,hE⟩:=zx ((aC (aA (bp p)) j A E).2);rw[<-hA,<-hE] at a c u d;have P:=zh a;have V:=zh c;obtain⟨p0,p1,p2,p3,p4,p5⟩:=lX a.tb.k0;obtain⟨b0,b1,b2,b3,b4,b5,b6,b7,b8⟩:=bP a.rb;obtain⟨z0,z1,z2,z3,z4,z5,z6,z7,z8⟩:=eX a.tb.k2;have zf:=a.tb.zf
    by_cases hlj:j<L
    .have d2:(j:Int)<L:=ω;have y:n1+bJ p*j+bJ p<=64:=by
      have:=a6.out;have h2:bJ p*(j+1)<=bJ p*L:=mul_le_mul_left _ ω;rw[mul_succ] at h2;omega
     have B:=a.tr.beg HH c.e y;have f:=hp wr.drew sb R Q E2 (n1+bJ p*j) s (B.below ZB.drew) (dK HR ((a.tr.bl HH).trans ZB.drew));have o:=fK p hok (n1+bJ p*j) E2 y c.e;obtain⟨X,hX⟩:=zx (bp p E2);rw[<-hX] at f o u;have Y:=zh (a.below ZB.drew);have z:=zh o;have Z:=zh y;clear a c o hX hA hE y B d z0 z1 z2 z3 z4 z5 z6 z7 z8 zf;go_wp2
     go_region_with (first|(go_at_call 175;refine(mX w2 sb D C X.2 X.1 A2 (n1+bJ p*j+bJ p) (x.tr.tz HH) HH.s1 x.tr.at_ Z z.1 z.2 (V.r.mono ω)).mono ?_;rintro r w3 ⟨rfl,H,I⟩;have J:=zh (x.call H I);obtain⟨f0,f1,f2,f3,f4,f5,f6,f7,f8⟩:=bP J.rb;have ff:=J.fz;clear H I)|(go_at_call 176;refine f.mono ?_;rintro r w2 ⟨rfl,D,C,F,N⟩;have x:=zh (Y.call F N);obtain⟨g0,g1,g2,g3,g4,g5,g6,g7,g8⟩:=bP x.rb;clear F N))
     all_goals (
      obtain⟨W,hW⟩:=zx (S9 w3 (w.heap.size+1+1+1) (X.1.join A2));have t:=hW;simp only[S9] at t;rw[<-t];have a3:Hid (BS sb w vb vf W D C (X.2.join X.1 A2) (X.1.join A2) s L M):=by rw[hW];exact J.put _
      clear hW t f0 f1 f2 f3 f4 f5 f6 f7 f8 ff;go_wp2
      go_roundw
      case rel=>exact⟨j+1,D,C,ω,π,by rw[u.out];exact a3⟩
      case measure=>simp[intOf]<;>omega)
    .have d5:¬(j:Int)<L:=ω;have a7:j=L:=ω;have a8:Hid (ei (bp p) L M eD e=(A2,E2)):=by show _=_;rw[d1.out,d.out a7]
     clear a c hA hE u d a7 p0 p1 p2 p3 p4 p5;go_wp2
     obtain⟨W,hW⟩:=zx (S9 wr (w.heap.size+1+1) A2);have t:=hW;simp only[S9] at t;rw[<-t];have hq:W.heap[w.heap.size+1+1]?=some (.cells (ik A2) 152):=by rw[hW];exact fx _ P.tb.k2
     obtain⟨r0,r1,r2,r3,r4,r5,r6,r7,r8⟩:=bP hq;refine Zb (v:=pE A2) (by simp[results,results199,go_sem,r0,r1,r2,r3,r4,r5,r6,r7,r8]) rfl ?_;rw[a8.out];have K:=P.tr.put (q:=w.heap.size+1+1) ω ω A2;rw[<-hW] at K;exact⟨rfl,R,Q,K.at_,K.gr⟩
end Go.Proofs.YtbjabpodkaokjaaGreatDoor
