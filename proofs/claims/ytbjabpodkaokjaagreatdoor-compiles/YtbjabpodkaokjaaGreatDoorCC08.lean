import Derived.Test.YtbjabpodkaokjaaGreatDoorCC05
import Derived.Deep.RegionHeld3
set_option linter.all false
set_option maxHeartbeats 4000000
set_option maxRecDepth 100000
open List Nat Go.World Go.Proofs.Tryz
namespace Go.Proofs.YtbjabpodkaokjaaGreatDoor
open Go.RowKit
variable {w:World}{t:Tb}{l:List UInt8}{k c g:Nat}{va:Value}{wr:World}{g1 n:Nat}{f b:Bool}{st:Int}{cf:Nat->Int}{acc:List Bool}{next:List (List Int)}{S:Nat->Bool}{vs:List Value}{H:Nat}{S':Nat->Bool}{A B C:World}
def Hi.mono {lo lo':Nat}{w w':World} (h:Hi lo w w') (hl:lo<=lo'):Hi lo' w w':=⟨h.size,λk h1 h2=>h.block k (Zc hl h1) h2⟩
structure jf (t:Tb) (c:Nat):Prop where
 a1:1<=t.acc.length
 a2:t.acc.length<=200
 n:t.next.length=t.acc.length
 s1:0<=t.start
 s2:t.start<t.acc.length
 cc:iG (ba t.cls)=some c
 r:∀ r∈t.next,r.length=c/\∀ z∈r,0<=z/\z<t.acc.length
def uW (h:mh t=true):∃ c,jf t c:=by
 unfold mh at h;simp only[Bool.and_eq_true,decide_eq_true_eq] at h;obtain⟨h1,h2,h3,h4,h5⟩:=h
 split at h5
 .simp at h5
 .rename_i c hc;refine⟨c,⟨h1,h2,h3,?_,?_,hc,λr hr=>?_⟩⟩
  .grind [fY]
  .grind [fY]
  .grind [rowOk,fY]
def jf.c256 (h:jf t c):c<=256/\t.cls.length=256:=by
 have h5:=h.cc;unfold iG at h5
 split at h5
 .rename_i h6;have:=pu _ _ _ h5;rw[h_] at h6;exact⟨ω,h6⟩
 .simp at h5
structure NI (w wr:World) (g g1 n:Nat) (f b:Bool) (st:Int) (cf:Nat->Int) (acc:List Bool) (next:List (List Int)) (va:Value) (S:Nat->Bool) (k:Nat) (vs:List Value):Prop where
 au:Au wr g f b st cf S (.slice (some ⟨g1,0,none⟩) n n)
 nw:Nw wr g1 n (λj=>vs[j]?.getD (.slice none 0 0))
 vl:vs.length=k
 rows:∀ j (h:j<vs.length),uT (g+1) e8 wr vs[j] (next[j]?.getD [])
 bl:Below w.heap.size w wr
 lo:g<wr.heap.size
 c4:wr.cell? ⟨w.heap.size,4,none⟩=some va
 gl:w.heap.size<g1/\g=g1+1
theorem NI.step {w wr w4:World} (h:NI w wr g g1 n f b st cf acc next va S k vs)
  {r:List Int}{g4:Nat} (hb:Below wr.heap.size wr w4) (hg:wr.heap.size<=g4) (hg2:g4<w4.heap.size) (hn:Nw w4 g4 r.length λj=>e8 (r[j]?.getD 0)) (hr:next[k]?=some r) (hk:k<n) :
  NI w (w4.setCell ⟨g1,k,none⟩ (.slice (some ⟨g4,0,none⟩) r.length r.length)) g g1 n f b st cf acc next va S (k+1) (vs++[.slice (some ⟨g4,0,none⟩) r.length r.length]):=by
 obtain⟨au,nw,vl,a,bl,lo,c4,gl,ge⟩:=h;have d:g1<wr.heap.size:=ω;have i:Hi (g+1) wr (w4.setCell ⟨g1,k,none⟩ (.slice (some ⟨g4,0,none⟩) r.length r.length)):=(Hi.of_below hb).setCell ω _ _;have m:(w4.setCell ⟨g1,k,none⟩ (.slice (some ⟨g4,0,none⟩) r.length r.length)).heap.size=w4.heap.size:=by simp[World.setCell]
 have hz:=hb.size;refine⟨(au.of_block (hb.block g lo)).of_block (Zf _ _ _ _ (by simp only;omega)),?_,by simp[vl],λj hj=>?_,?_,ω,?_,gl,ge⟩
 .refine((nw.of_block (hb.block g1 d)).set k hk _).congr (λj hj=>?_)
  by_cases e:j=k
  .simp_all
  .grind
 .by_cases e:j<vs.length
  .rw[Zp e];exact(a j e).keep i
  .have e2:j=vs.length:=by simp at hj;omega
   subst e2;rw[getElem_append_right zq];simp only[Nat.sub_self,getElem_cons_zero];rw[vl,hr];simp only[Option.getD_some];exact(uT.of_nw (lo:=g+1) (enc:=e8) hn ω hg2 (λj hj=>by simp[hj])).keep ((Hi.refl _ _).setCell ω _ _)
 .exact(bl.trans (hb.mono bl.size)).setCell (p:=⟨g1,k,none⟩) (by simp only;omega) _
 .rw[cell?_setCell_other _ _ _ _ ψ];exact cell_below hb c4
theorem NI.drew (h:NI w wr g g1 n f b st cf acc next va S k vs):NI w wr.drew g g1 n f b st cf acc next va S k vs:=by
 obtain⟨au,nw,vl,a,bl,lo,c4,gl⟩:=h;exact⟨au.of_block rfl,nw.of_block rfl,vl,λj hj=>(a j hj).keep (Hi.refl _ _).drew,bl.drew,lo,c4,gl⟩
theorem NI.four {w wr w6:World} (h:NI w wr g g1 n f b st cf acc next va S k vs)
  (h4:Sx.ft g 259 wr w6) (hs:∃ y0 y1 y2 y3,Sx.fg w6 g 259 S' y0 y1 y2 y3):NI w w6 g g1 n f b st cf acc next va S' k vs:=by
 obtain⟨au,nw,vl,a,bl,lo,c4,gl,ge⟩:=h;have hz:=bl.size;have d:=h4.size;refine⟨au.four h4 hs,nw.of_block (h4.block g1 ω ω),vl,λj hj=>(a j hj).keep ((Hi.refl _ _).four ω h4),?_,ω,?_,gl,ge⟩
 .exact⟨h4.os.trans bl.os,h4.tape.trans bl.tape,h4.output.trans bl.output,ω,λj hj=>(h4.block j ω ω).trans (bl.block j hj)⟩
 .have e:=h4.block w.heap.size (aF c4) ω;simp only[cell?] at c4 ⊢;rw[e];exact c4
theorem NI.set (h:NI w wr g g1 n f b st cf acc next va S k vs) (e:∀ n,n<256->S n=S' n):NI w wr g g1 n f b st cf acc next va S' k vs:=by
 obtain⟨au,nw,vl,a,bl,lo,c4,gl⟩:=h;exact⟨au.set e,nw,vl,a,bl,lo,c4,gl⟩
def Fw (w:World) (t:Tb) (va vn:Value) (h:cJ w t va vn) (hs:qn t) (hf:mh t=true) :
  Calls prog 42 #[tv t va vn] w λe w'=>∃ g,e=.returned (.tuple #[.pointer (some ⟨g,0,none⟩),.bool true])/\w.heap.size<=g/\(∀ w2,Hi w.heap.size w' w2->mL w2 g t)/\Below w.heap.size w w':=by
 obtain⟨c,ok⟩:=uW hf;have p:=ok.c256;obtain⟨f,b,st,cls,acc,next⟩:=t;obtain⟨a1,a2,n1,s1,s2,cc,hr⟩:=ok
 simp only at *
 have hB:Below w.heap.size w (w.alloc (.cells #[.bool f,.bool b,.int .i64 st,.string (ba cls),va,vn] 33)):=ZA;have hi:=wM _ _ va vn (h.below hB) hs;rw[hf] at hi;have HB:=zh hB;have HT:=zh (h.below hB);obtain⟨us,N,hu,a3⟩:=h.next;obtain⟨an,on,cn,a7,a8⟩:=hu.nonnil (by simp only at *;omega);obtain⟨aa,oa,ca,a4,d⟩:=h.acc.nonnil (by simp only at *;omega)
 simp only at N hu a3 a7 a8 a4 d
 obtain⟨n,hn⟩:=zx acc.length;have b8:vn=.slice (some ⟨an,on,none⟩) n cn:=by rw[a7,N,n1,hn]
 have b5:va=.slice (some ⟨aa,oa,none⟩) n ca:=by rw[a4,hn]
 clear a7 a4 hB h hs hf;obtain⟨i0,c2,W,O,D⟩:=info_parts Tryz.infoLS;have d7:=dv underlying159 c2 W O D n ω Zs;have d3:=Ki;have d5:=Bo;have e1:=Lh;have e9:=Kj;have f9:=Bn st ω;subst b8 b5;have HN:=zh hn;have X:=zh (n1.trans hn.symm);have e5:=zh (N.trans X);have HR:Hid (∀(r:List Int),r∈next->r.length=c/\∀(z:Int),z∈r->0<=z/\z<(n:Int)):=by show ∀ _,_;rw[hn];exact hr
 have c9:=zh a3;have d1:=zh a8;have b3:=zh d;have c8:=zh p.2;have hc:=p.1;rw[<-hn] at s2 a1 a2;simp only[tv] at hi;clear hn n1 N hr a3 a8 d p cc hu
 go_enter func42,ntmps42
 go_wp2_with (go_at_call 76;refine hi.mono ?_;rintro e w1 ⟨rfl,hb⟩;have k0:w1.cell? ⟨w.heap.size,0,none⟩=some (.bool f):=cell_below hb (by simp[go_sem]);have k1:w1.cell? ⟨w.heap.size,1,none⟩=some (.bool b):=cell_below hb (by simp[go_sem]);have k2:w1.cell? ⟨w.heap.size,2,none⟩=some (.int .i64 st):=cell_below hb (by simp[go_sem]);have k3:w1.cell? ⟨w.heap.size,3,none⟩=some (.string (ba cls)):=cell_below hb (by simp[go_sem]);have k4:w1.cell? ⟨w.heap.size,4,none⟩=some (.slice (some ⟨aa,oa,none⟩) n ca):=cell_below hb (by simp[go_sem]);have k5:w1.cell? ⟨w.heap.size,5,none⟩=some (.slice (some ⟨an,on,none⟩) n cn):=cell_below hb (by simp[go_sem]))
 go_region_held3 (λw'=>w'.cell? ⟨w.heap.size,0,none⟩=some (.bool f)/\w'.cell? ⟨w.heap.size,1,none⟩=some (.bool b)/\w'.cell? ⟨w.heap.size,2,none⟩=some (.int .i64 st)/\w'.cell? ⟨w.heap.size,5,none⟩=some (.slice (some ⟨an,on,none⟩) n cn)) (go_keep) (fail)
 have J:=HB.trans (hb.mono χ);have Y:Below w.heap.size w ((w1.alloc (.cells (jp n (.slice none 0 0)) 164)).alloc (.cells (qp f b st (.slice (some ⟨w1.heap.size,0,none⟩) n n)) 163)).drew:=((J.alloc J.size _).alloc (by have:=J.size;simp;omega) _).drew;have D:((w1.alloc (.cells (jp n (.slice none 0 0)) 164)).alloc (.cells (qp f b st (.slice (some ⟨w1.heap.size,0,none⟩) n n)) 163)).drew.heap.size=w1.heap.size+2:=χ;have L:Au ((w1.alloc (.cells (jp n (.slice none 0 0)) 164)).alloc (.cells (qp f b st (.slice (some ⟨w1.heap.size,0,none⟩) n n)) 163)).drew (w1.heap.size+1) f b st (λ_=>0) (λ_=>false) (.slice (some ⟨w1.heap.size,0,none⟩) n n):=by
  have:=Au.new (w1.alloc (.cells (jp n (.slice none 0 0)) 164)) f b st (.slice (some ⟨w1.heap.size,0,none⟩) n n);rw[size_alloc] at this;exact this.of_block rfl
 have I:Nw ((w1.alloc (.cells (jp n (.slice none 0 0)) 164)).alloc (.cells (qp f b st (.slice (some ⟨w1.heap.size,0,none⟩) n n)) 163)).drew w1.heap.size n (λ_=>.slice none 0 0):=
  (Nw.new w1 n (.slice none 0 0) rfl _).of_block (Ze _ _ _ χ)
 have b2:=aF k0;have j3:((w1.alloc (.cells (jp n (.slice none 0 0)) 164)).alloc (.cells (qp f b st (.slice (some ⟨w1.heap.size,0,none⟩) n n)) 163)).drew.cell? ⟨w.heap.size,3,none⟩=some (.string (ba cls)):=cell_below (((Below.refl w1.heap.size w1).alloc zq _).alloc χ _).drew k3;have j4:((w1.alloc (.cells (jp n (.slice none 0 0)) 164)).alloc (.cells (qp f b st (.slice (some ⟨w1.heap.size,0,none⟩) n n)) 163)).drew.cell? ⟨w.heap.size,4,none⟩=some (.slice (some ⟨aa,oa,none⟩) n ca):=cell_below (((Below.refl w1.heap.size w1).alloc zq _).alloc χ _).drew k4;have j5:((w1.alloc (.cells (jp n (.slice none 0 0)) 164)).alloc (.cells (qp f b st (.slice (some ⟨w1.heap.size,0,none⟩) n n)) 163)).drew.cell? ⟨w.heap.size,5,none⟩=some (.slice (some ⟨an,on,none⟩) n cn):=cell_below (((Below.refl w1.heap.size w1).alloc zq _).alloc χ _).drew k5;rename_i o;clear o;generalize d2:((w1.alloc (.cells (jp n (.slice none 0 0)) 164)).alloc (.cells (qp f b st (.slice (some ⟨w1.heap.size,0,none⟩) n n)) 163)).drew=w2 at Y D L I j3 j4 j5 ⊢;clear d2 k0 k1 k2 k3 k4 k5 hb;clear J HB HT hi d7 d3 d5 e1 e9 W O c2;generalize d6:w1.heap.size=g1 at L I D b2 ⊢;clear d6;have K:=zh L;have b0:=zh I;have b4:=zh Y;clear L I Y;have b6:∀ w,(Go.sizeOf 5).run prog w=.ok 1 w:=λw=>by
  have h:=Tryz.infoU8;obtain⟨i0,hi,W,O,D⟩:=info_parts Tryz.infoU8;simp[Go.sizeOf,typeInfo,hi,O]
 have R:(ba cls).size=256:=by rw[h_];exact c8
 have s:Hid (∀ j,j<(ba cls).size->(w2.drew.cell? ⟨g1+1,3+j,none⟩).isSome=true):=λj hj=>by
  rw[R] at hj;have:=K.cl j hj;rw[show w2.drew.cell? ⟨g1+1,3+j,none⟩=w2.cell? ⟨g1+1,3+j,none⟩ from rfl,this];rfl
 have v:Hid (∀ j,j<(ba cls).size->w2.drew.frozen? ⟨g1+1,3+j,none⟩=false):=λj _=>K.fz _
 go_wp2
 go_region_law (refine step_copy_string rfl (.tmp 26) (.tmp 28) 73 9 rfl 5 underlying73 b6 (g1+1) 3 256 256 (by simp[Act.eval]) (ba cls) (by simp[Act.eval]) (by rw[R];exact zq) s.out v.out ?_)
 have q:=Au.cls (w:=w2.drew) (K.of_block rfl) cls c8;have E:Nw (w2.drew.setCells (g1+1) 3 (cls.map λx=>Value.int .u8 (x.toNat:Int))) g1 n (λ_=>.slice none 0 0):=b0.of_block (cg ω _ _ _);have Z:Below w.heap.size w (w2.drew.setCells (g1+1) 3 (cls.map λx=>Value.int .u8 (x.toNat:Int))):=below_setCells ω _ _ _ b4.drew;have a6:(w2.drew.setCells (g1+1) 3 (cls.map λx=>Value.int .u8 (x.toNat:Int))).cell? ⟨w.heap.size,4,none⟩=some (.slice (some ⟨aa,oa,none⟩) n ca):=by
  have e:=cg (b:=g1+1) (k:=w.heap.size) ω (cls.map λx=>Value.int .u8 (x.toNat:Int)) 3 w2.drew;have b7:=j4;simp only[cell?] at b7 ⊢;rw[e];exact b7
 have d8:(w2.drew.setCells (g1+1) 3 (cls.map λx=>Value.int .u8 (x.toNat:Int))).cell? ⟨w.heap.size,5,none⟩=some (.slice (some ⟨an,on,none⟩) n cn):=by
  have e:=cg (b:=g1+1) (k:=w.heap.size) ω (cls.map λx=>Value.int .u8 (x.toNat:Int)) 3 w2.drew;have b1:=j5;simp only[cell?] at b1 ⊢;rw[e];exact b1
 generalize e4:w2.drew.setCells (g1+1) 3 (cls.map λx=>Value.int .u8 (x.toNat:Int))=w3 at q E Z a6 d8 ⊢;have f1:Hid (NI w w3 (g1+1) g1 n f b st (λj=>((cls[j]?.getD 0).toNat:Int)) acc next (.slice (some ⟨aa,oa,none⟩) n ca) (λj=>decide (j<0)&&(acc[j]?.getD false)) 0 []):=
  ⟨q.set (λ_ _=>χ),E.congr (λ_ _=>χ),rfl,λj h=>by simp at h,Z,Zd (lt_succ_self _) q.lt,a6,ω⟩
 clear q E Z a6 e4 j3 j4 j5 s v K b0 b4;go_wp2
 go_loopw [33,5,6] (λi _ _ wr=>∃ k:Nat,∃ vs,i=.int .i64 k/\k<=n/\NI w wr (g1+1) g1 n f b st (λj=>((cls[j]?.getD 0).toNat:Int)) acc next (.slice (some ⟨aa,oa,none⟩) n ca) (λj=>decide (j<k)&&(acc[j]?.getD false)) k vs) (λi _ _ _=>n-(intOf i).toNat)
 case atStart=>exact⟨0,[],rfl,Zk _,f1⟩
 case round=>
  obtain⟨k,vs,rfl,hk,a⟩:=hrel;have HI:=zh a
  by_cases hlt:k<n
  .have f5:(k:Int)<n:=ω;have c6:k<us.length:=by have:=e5.out;omega
   have V:k<next.length:=by have:=X.out;omega
   have M:k<acc.length:=by have:=HN.out;omega
   have c1:=cell_below a.bl (d1 k c6);have d:=cell_below a.bl (b3 k M);have G:=(c9 k c6 V).below a.bl;have P:=HR next[k] (Zg V);have c4:=a.c4;have cn:=a.au.cn;have cs:=a.nw.c k hlt;rw[getElem?_eq_none (by rw[a.vl];exact zq)] at cs;simp only[Option.getD_none] at cs;have cf:=a.nw.fz k;obtain⟨u,hu⟩:=zx (us[k]);obtain⟨r,a9⟩:=zx (next[k]);obtain⟨ab,a5⟩:=zx (acc[k]);rw[<-hu] at c1 G;rw[<-a9] at G P;rw[<-a5] at d;have f2:=zh a9;have U:=zh a5;have f7:=a.lo;have d9:=Da wr.drew u r (G.below (Below.refl wr.heap.size wr).drew) ω (λz hz=>by have:=P.2 z hz;omega);have f4:=Bn (k:Int) ω;have f8:=zh P.1;clear a hu a9 a5 G P;go_wp2
   go_region_held3 (λw'=>w'.cell? ⟨g1+1,263,none⟩=some (.slice (some ⟨g1,0,none⟩) n n)) (go_keep) (first|(go_at_call 77;refine d9.mono ?_;rintro e w4 ⟨g4,rfl,c7,c0,c3,F⟩;have e6:=cell_below F cs;have d0:=cell_below F cn;have f3:w4.frozen? ⟨g1,k,none⟩=false:=(by have:=cf;have e:=F.block g1 (aF cs);simp only[frozen?] at this ⊢;rw[e];exact this)))
   rename_i o;clear o;have m:Hid (NI w (w4.setCell ⟨g1,k,none⟩ (.slice (some ⟨g4,0,none⟩) r.length r.length)) (g1+1) g1 n f b st (λj=>((cls[j]?.getD 0).toNat:Int)) acc next (.slice (some ⟨aa,oa,none⟩) n ca) (λj=>decide (j<k)&&(acc[j]?.getD false)) (k+1) (vs++[.slice (some ⟨g4,0,none⟩) r.length r.length])):=
    HI.drew.step F c7 c0 c3 (by rw[Zj V,f2.out]) hlt
   generalize e0:w4.setCell ⟨g1,k,none⟩ (.slice (some ⟨g4,0,none⟩) r.length r.length)=w5 at m ⊢;generalize (vs++[.slice (some ⟨g4,0,none⟩) r.length r.length])=vs' at m;clear e0 e6 d0 f3 F c3 c0 c7 c1 d cs cf c4 cn;have c4:=m.c4;have d:=cell_below m.bl (b3 k M);rw[<-U.out] at d
   cases ab with
   |false=>
    go_wp2
    go_roundw
    case rel=>exact⟨k+1,vs',π,ω,m.set (λj hj=>by
     by_cases e:j=k
     .subst e;have:=U.out;simp[M,<-this]
     .have e2:(j<k+1)=(j<k):=by rw[eq_iff_iff];omega
      simp only[e2])⟩
    case measure=>simp[intOf]<;>omega
   |true=>
    obtain⟨x0,x1,x2,x3,Q⟩:=m.au.st;have b9:=Sx.mB (.inr rfl) w5 (g1+1) 259 k _ x0 x1 x2 x3 ω Q;clear Q;go_wp2_with (go_at_call 78;refine b9.mono ?_;rintro e w6 ⟨rfl,d4,f0⟩)
    go_roundw
    case rel=>exact⟨k+1,vs',π,ω,(m.four f0 d4).set (λj hj=>by
     by_cases e:j=k
     .subst e;have:=U.out;simp[M,<-this,Sx.orS,Sx.ax]
     .have e2:(j<k+1)=(j<k):=by rw[eq_iff_iff];omega
      have e3:Sx.ax k k j=false:=by simp[Sx.ax];omega
      simp only[e2,Sx.orS,e3,Bool.or_false])⟩
    case measure=>simp[intOf]<;>omega
  .have g0:¬(k:Int)<n:=ω;clear a;go_wp2
   go_ret2
   refine⟨g1+1,rfl,ω,?_,HI.bl⟩;have f6:k=n:=ω;intro w2 T;obtain⟨au,nw,vl,y,bl,lo,c4,gl⟩:=HI
   replace au:=au.of_block (T.block _ ω lo)
   replace nw:=nw.of_block (T.block g1 ω ω)
   replace y:=λj (h:j<vs.length)=>(y j h).keep (T.mono ω)
   refine⟨⟨_,_,au,λj hj=>?_,⟨vs,?_,?_,λj h1 h2=>?_⟩⟩⟩
   .by_cases hjk:j<k
    .simp[hjk]
    .have:acc.length<=j:=by have:=HN.out;omega
     simp[hjk,getElem?_eq_none this]
   .show vs.length=next.length;rw[X.out];omega
   .have e:vs.length=n:=ω;have:=Nw.row (α:=Value) (l:=vs) (enc:=id) (c:=n) (by rw[e];exact nw) (λj hj=>by simp[hj]);rw[e] at this;exact this
   .have:=(y j h1).row;have e7:j<next.length:=h2
    simpa [e7] using this
def stp (t:Tb) (s:Nat) (c:UInt8):Nat:=(((t.next[s]?.getD [])[(t.cls[c.toNat]?.getD 0).toNat]?).getD 0).toNat
def stL (t:Tb) (l:List UInt8):Nat:=l.foldl (stp t) t.start.toNat
def uX (t:Tb) (s:Nat):Bool:=t.acc[s]?.getD false
def eP (t:Tb) (l:List UInt8) (k:Nat):List Nat:=(List.range k).filter λi=>!t.back&&uX t (stL t (l.take i))
def fW (t:Tb) (l:List UInt8):List Nat:=eP t l l.length++if uX t (stL t l) then[l.length] else[]
variable (t l k) in
theorem Bu:eP t l (k+1)=eP t l k++if (!t.back&&uX t (stL t (l.take k))) then[k] else[]:=by
 unfold eP;rw[range_succ,filter_append]
 congr 1
 by_cases h:(!t.back&&uX t (stL t (l.take k)))=true
 .rw[Zi h];simp only[filter_cons,filter_nil];rw[Zi h]
 .rw[Zh h];simp only[filter_cons,filter_nil];rw[Zh h]
variable (t l k) in
def Fy:(eP t l k).length<=k:=by
 have:=length_filter_le (λi=>!t.back&&uX t (stL t (l.take i))) (List.range k)
 simpa [eP] using this
theorem tw (t:Tb) (l:List UInt8) (k:Nat):∀ n,eP t l k <+: eP t l (k+n)
 |0=>prefix_refl _
 |n+1=>(tw t l k n).trans (by
  show _ <+: eP t l (k+n+1);rw[Bu]
  exact prefix_append _ _)
variable (t l k) in
def Im (h:k<=l.length):eP t l k <+: fW t l:=by
 obtain⟨n,hn⟩:∃ n,l.length=k+n:=⟨l.length-k,ω⟩
 unfold fW;refine IsPrefix.trans ?_ (prefix_append _ _);rw[hn];exact tw t l k n
variable (t l) in
theorem Fz (c:UInt8):stL t (l++[c])=stp t (stL t l) c:=by simp[stL]
theorem FA:∀(l:List UInt8) (n m:Nat),jc n l=some m->∀ j (h:j<l.length),l[j].toNat<m
 |[],_,_,_,j,h=>by simp at h
 |c::t,n,m,hc,j,h=>by
  simp only[jc] at hc
  split at hc
  .simp at hc
  .have hm:=(pu t _ m hc).1
   cases j with
   |zero=>simp;omega
   |succ j=>exact FA t _ m hc j (by simpa using h)
theorem jf.cls (h:jf t c) (b:UInt8):(t.cls[b.toNat]?.getD 0).toNat<c:=by
 have h5:=h.cc;have h2:=h.c256.2;unfold iG at h5
 split at h5
 .have hb:=b.toNat_lt;have a:b.toNat<t.cls.length:=ω;have:=FA t.cls 0 c h5 b.toNat a
  simpa [a] using this
 .simp at h5
theorem jf.stp (h:jf t c) (s:Nat) (hs:s<t.acc.length) (b:UInt8):stp t s b<t.acc.length:=by
 unfold Go.Proofs.YtbjabpodkaokjaaGreatDoor.stp;have a:s<t.next.length:=by rw[h.n];exact hs
 have hr:=h.r t.next[s] (Zg a);have hc:=h.cls b;rw[Zj a,Option.getD_some,Zj (by rw[hr.1];exact hc),Option.getD_some];have:=hr.2 _ (Zg (by rw[hr.1];exact hc));omega
theorem jf.stL (h:jf t c):∀ l:List UInt8,stL t l<t.acc.length:=by
 have key:∀(l:List UInt8) (s:Nat),s<t.acc.length->l.foldl (Go.Proofs.YtbjabpodkaokjaaGreatDoor.stp t) s<t.acc.length:=by
  intro l
  induction l with
  |nil=>intro s hs;exact hs
  |cons b r ih=>intro s hs;exact ih _ (h.stp s hs b)
 intro l;exact key l _ (ξ h.s1 h.s2)
def uY (h:mL w g t) (hok:jf t c) (s:Nat) (hs:s<t.acc.length) (b:UInt8) :
  ∃ bn on cn ar lr cr,w.cell? ⟨g,263,none⟩=some (.slice (some ⟨bn,on,none⟩) t.acc.length cn)/\w.cell? ⟨bn,on+s,none⟩=some (.slice (some ⟨ar,lr,none⟩) c cr)/\w.cell? ⟨g,3+b.toNat,none⟩=some (.int .u8 ((t.cls[b.toNat]?.getD 0).toNat:Int))/\w.cell? ⟨ar,lr+(t.cls[b.toNat]?.getD 0).toNat,none⟩=some (.int .u8 (stp t s b:Int)):=by
 obtain⟨S,v,o,hS,us,r,hu,hr⟩:=h.au;have d:s<t.next.length:=by rw[hok.n];exact hs
 have p:s<us.length:=ω;obtain⟨bn,on,cn,rfl,j⟩:=hu.nonnil ω;have a:=hok.r t.next[s] (Zg d);have hc:=hok.cls b;obtain⟨ar,lr,cr,i,q⟩:=(hr s p d).nonnil (by rw[a.1];omega);refine⟨bn,on,cn,ar,lr,cr,?_,?_,o.cl b.toNat (η b.toNat_lt),?_⟩
 .rw[o.cn,r,hok.n]
 .rw[j s p,<-a.1];exact congrArg some i
 .have m:(t.cls[b.toNat]?.getD 0).toNat<t.next[s].length:=by rw[a.1];exact hc
  rw[q _ m];have e:(stp t s b:Int)=t.next[s][(t.cls[b.toNat]?.getD 0).toNat]:=by
   unfold Go.Proofs.YtbjabpodkaokjaaGreatDoor.stp;rw[Zj d,Option.getD_some,Zj m,Option.getD_some];have:=a.2 _ (Zg m);omega
  rw[e]
structure Kq (H:Nat) (W W':World):Prop where
 bl:Below H W W'
 k1:W'.heap[H+1]?=W.heap[H+1]?
 k2:W'.heap[H+2]?=W.heap[H+2]?
theorem Kq.refl (H:Nat) (W:World):Kq H W W:=⟨ZB,rfl,rfl⟩
theorem Kq.trans {A B C:World} (h:Kq H A B) (k:Kq H B C):Kq H A C:=⟨h.bl.trans k.bl,k.k1.trans h.k1,k.k2.trans h.k2⟩
def Kq.below (h:Kq H A B) (hb:Below B.heap.size B C) (hs:H+3<=B.heap.size):Kq H A C:=h.trans ⟨hb.mono ω,hb.block _ ω,hb.block _ ω⟩
end Go.Proofs.YtbjabpodkaokjaaGreatDoor
