import Derived.Test.YtbjabpodkaokjaaGreatDoorCC20
import Derived.Laws.IdiomStrings
set_option linter.all false
set_option maxHeartbeats 4000000
set_option maxRecDepth 100000
open List Nat Go.World Go.Proofs.Tryz
namespace Go.Proofs.YtbjabpodkaokjaaGreatDoor
open Go.RowKit
open Sx (bL)
variable {lo sp:Nat}{x:Rx}{n N:Nat}{p:Rp}{V:World}{g:Nat}{a b c:Value}{w':World}{vs vf:Value}{us:List Value}{o M cap k B:Nat}{v u:Value}{O':Nat->Prop}{mx:Int}{g':Nat}{P:Nat->Bool}{w2:World}{X:Rx}{D:Nat}{f' l':Value}{w0:World}{O0:Nat->Prop}{m1:Nat}{Q:World->Prop}{mn sg:Int}{W1 W:World}{f2 l2:Value}{q:Rp}{cs:Array Value}{b' N':Nat}{wq wr:World}{n1 R:Nat}{w:World}{O:Nat->Prop}{m:Nat}{e:Bool}{f l:Value}
structure vD (lo:Nat) (w:World) (O:Nat->Prop) (vF vL:Value) (p:Rp):Prop where
 f:IL lo w vF p.first
 l:IL lo w vL p.last
 mf:∀ b,vF.ownBlock=some b->¬ O b
 ml:∀ b,vL.ownBlock=some b->¬ O b
abbrev j_ (e:Bool) (f l:Value):Value:=.agg #[.bool e,f,l]
theorem vD.frame (h:vD lo w O f l p) (g:Fx lo w w' O O'):vD lo w' O' f l p:=
 ⟨(h.f.frame h.mf g).1,(h.l.frame h.ml g).1,(h.f.frame h.mf g).2,(h.l.frame h.ml g).2⟩
theorem vD.below (h:vD lo w O f l p) (g:Below w.heap.size w w'):vD lo w' O f l p:=⟨h.f.below g,h.l.below g,h.mf,h.ml⟩
variable (lo w O e) in
theorem vD.nil:vD lo w O (.slice none 0 0) (.slice none 0 0) ⟨e,[],[]⟩:=⟨IL.nil _ _,IL.nil _ _,(λb e=>by cases e),(λb e=>by cases e)⟩
theorem im.below (h:im lo w sp x vs vf us) (g:Below w.heap.size w w'):im lo w' sp x vs vf us:=
 ⟨by rw[g.block sp (ZC h.h)];exact h.h,h.ls,ak h.s (λb e=>g.block b (h.s.lt b e).2),ak h.f (λb e=>g.block b (h.f.lt b e).2),λi hi=>(h.u i hi).below g,h.d⟩
def im.mb (h:im lo w sp x vs vf us) {b:Nat} (hb:MB sp vs vf us b):lo<=b/\b<w.heap.size:=by
 rcases hb with rfl|e|e|⟨u,hu,e⟩
 .exact⟨h.ls,(ZC h.h)⟩
 .exact h.s.lt b e
 .exact h.f.lt b e
 .obtain⟨i,hi,rfl⟩:=mem_iff_getElem.1 hu;exact(h.u i hi).lt e
theorem im.keep (h:im lo w sp x vs vf us) (hk:∀ b,MB sp vs vf us b->w'.heap[b]?=w.heap[b]?):im lo w' sp x vs vf us:=
 ⟨by rw[hk sp (.inl rfl)];exact h.h,h.ls,ak h.s (λb e=>hk b (.inr (.inl e))),ak h.f (λb e=>hk b (.inr (.inr (.inl e)))),λi hi=>(h.u i hi).keep (λb e=>hk b (.inr (.inr (.inr ⟨_,Zg hi,e⟩)))),h.d⟩
def Fx.wrap {w W1 w2 w3:World} (h1:Below w.heap.size w W1) (h2:Fx lo W1 w2 O O') (h3:Below w.heap.size w2 w3) (hlo:lo<=w.heap.size):Fx lo w w3 O O':=
 ⟨((h1.mono hlo).trans h2.bl).trans (h3.mono hlo),λb hb hO=>((h3.block b hb).trans (h2.kp b (Zd hb h1.size) hO)).trans (h1.block b hb),λb q=>(h2.nw b q).imp id (λq=>Zc h1.size q)⟩
structure Sm (N:Nat) (x:Rx) (p:Rp):Prop where
 r:∀ i,(x.fol.getD i []).length<=N
 f:p.first.length<=1000
 l:p.last.length<=1000
 b:∀ i∈p.last,i<x.fol.length
def AE (h:im lo w sp x vs vf us) (hlo:lo<=w.heap.size) (hp:vD lo w (MB sp vs vf us) f l p)  (hN:N<=800000000) (hb:Sm N x p) :
  Calls prog 155 #[.pointer (some ⟨sp,0,none⟩),j_ p.em f l] w λe w'=>∃ d,e=.returned (j_ true f l)/\im lo w' sp (x.beh p p) vs vf d/\Fx lo w w' (MB sp vs vf us) (MB sp vs vf d):=by
 obtain⟨a1,n1,c1,S⟩:=hp.f.shape;obtain⟨a2,n2,c2,T⟩:=hp.l.shape;subst S;subst T;have HF:Hid (∀ W,Below w.heap.size w W->Calls prog 156 #[.pointer (some ⟨sp,0,none⟩),.slice a2 n2 c2,.slice a1 n1 c1] W λe w'=>∃ d,e=.returned (.tuple #[])/\im lo w' sp (x.beh p p) vs vf d/\Fx lo W w' (MB sp vs vf us) (MB sp vs vf d)):=λW hW=>
  oV (h.below hW) (Zc hlo hW.size) (hp.l.below hW) (hp.f.below hW) hp.ml hp.mf hb.b N hb.r (by
   have:=Nat.mul_le_mul hb.l hb.f;have:=hb.f
   omega) (η hb.l)
 have H:Hid (∀ b,MB sp vs vf us b->b<w.heap.size):=λb q=>(h.mb q).2
 go_enter func155,ntmps155
 go_upto_region 1 with(fail)
 obtain⟨W1,i⟩:=zx ((w.alloc (.cells #[.bool p.em,.slice a1 n1 c1,.slice a2 n2 c2] 108)).alloc (.cells #[.bool false,.slice none 0 0,.slice none 0 0] 108));obtain⟨B,hB⟩:=zx w.heap.size;have A:W1.heap.size=B+2:=by rw[i,hB];simp
 have E:Hid (Below w.heap.size w W1):=by show Below _ _ _;rw[i];exact ZA.alloc χ _
 have G:Hid (W1.heap[B]?=some (.cells #[.bool p.em,.slice a1 n1 c1,.slice a2 n2 c2] 108)):=by
  show _=_;rw[i,hB];exact(Ze _ _ _ χ).trans (Za w _)
 have z:Hid (W1.heap[B+1]?=some (.cells #[.bool false,.slice none 0 0,.slice none 0 0] 108)):=by
  show _=_;rw[i,hB];have:=Za (w.alloc (.cells #[.bool p.em,.slice a1 n1 c1,.slice a2 n2 c2] 108)) (.cells #[.bool false,.slice none 0 0,.slice none 0 0] 108)
  simpa using this
 rw[<-i,<-hB];obtain⟨s0,s1,s2⟩:=dL G;have F:=zh hB;have K:=zh A;clear i hB A
 go_upto_region 2 with(go_at_call 156;refine(HF _ E).mono ?_;rintro e w2 ⟨d,rfl,J,L⟩;have I:=zh J;have r:=zh L)
 have t:∀ b,B<=b->b<B+2->w2.heap[b]?=W1.heap[b]?/\¬ MB sp vs vf d b:=λb h1 h2=>by
  have h3:=K.out;have h4:=F.out;have h5:¬ MB sp vs vf us b:=λq=>by have:=H.out b q;omega
  refine⟨r.out.kp b ω h5,λq=>?_⟩;rcases r.nw b q with q|q
  .exact h5 q
  .omega
 have C:=((t B zq ω).1).trans G;have y:=((t (B+1) ω ω).1).trans z;obtain⟨s0,s1,s2⟩:=dL C;obtain⟨r0,r1,r2⟩:=dL y;have z1:∀ o,w2.frozen? ⟨B,o,none⟩=false:=λo=>by simp[frozen?,C]
 have z2:∀ o,w2.frozen? ⟨B+1,o,none⟩=false:=λo=>by simp[frozen?,y]
 have s:=zh t;go_wp2
 obtain⟨W3,j⟩:=zx (((((w2.setCell ⟨B,0,none⟩ (.bool true)).setCell ⟨B+1,0,none⟩ (.bool true)).setCell ⟨B+1,1,none⟩ (.slice a1 n1 c1)).setCell ⟨B+1,2,none⟩ (.slice a2 n2 c2)));have hk:∀ b,b≠B->b≠B+1->W3.heap[b]?=w2.heap[b]?:=λb h1 h2=>by
  rw[j,ah _ _ _ _ h2,ah _ _ _ _ h2,ah _ _ _ _ h2,ah _ _ _ _ h1]
 have hr:W3.heap[B+1]?=some (.cells #[.bool true,.slice a1 n1 c1,.slice a2 n2 c2] 108):=by
  have h0:(w2.setCell ⟨B,0,none⟩ (.bool true)).heap[B+1]?=some (.cells #[.bool false,.slice none 0 0,.slice none 0 0] 108):=by
   rw[ah _ _ _ _ ω];exact((s (B+1) ω ω).1).trans z
  rw[j,ap (ap (ap h0))];rfl
 obtain⟨g0,g1,g2⟩:=dL hr;have U:Below w.heap.size w2 W3:=by
  rw[j,<-F.out];exact((((Below.refl B w2).setCell (p:=⟨B,0,none⟩) (Nat.le_refl B) _).setCell (p:=⟨B+1,0,none⟩) (le_succ B) _).setCell (p:=⟨B+1,1,none⟩) (le_succ B) _).setCell (p:=⟨B+1,2,none⟩) (le_succ B) _
 rw[<-j];refine Zb (v:=j_ true (.slice a1 n1 c1) (.slice a2 n2 c2)) (by simp[results,results155,go_sem,g0,g1,g2]) rfl ⟨d,rfl,I.keep (λb q=>hk b (λe=>?_) (λe=>?_)),Fx.wrap E r U hlo⟩
 .exact(s b ω ω).2 q
 .exact(s b ω ω).2 q
def d_ (V:World) (g:Nat) (a b c:Value):World:=((V.setCell ⟨g,0,none⟩ a).setCell ⟨g,1,none⟩ b).setCell ⟨g,2,none⟩ c
def Lx {o:Obj} (h:w.alloc o=W):W.heap[w.heap.size]?=some o:=by rw[<-h];exact Za w o
def kO {x y z:Value}{T:TypeId} (h:V.heap[g]?=some (.cells #[x,y,z] T)) (a b c:Value):(d_ V g a b c).heap[g]?=some (.cells #[a,b,c] T):=by
 unfold d_;rw[ap (ap (ap h))];rfl
variable (V g a b c) in
def iE (h:k≠g):(d_ V g a b c).heap[k]?=V.heap[k]?:=by grind [d_,ah]
variable (V g a b c) in
def ru {C:Nat}    (h:C<=g):Below C V (d_ V g a b c):=
 (((Below.refl C V).setCell (p:=⟨g,0,none⟩) h _).setCell (p:=⟨g,1,none⟩) h _).setCell (p:=⟨g,2,none⟩) h _
def pI {us us':List Value} (hBL:Below w.heap.size w W1) (hF2:Fx lo W1 w2 (MB sp vs vf us) (MB sp vs vf us')) (hS2:im lo w2 sp X vs vf us') (hlo:lo<=w.heap.size) (hB:B=w.heap.size) (hnb:¬ MB sp vs vf us' (B+1+1)) (hsz:B+3<=w2.heap.size) (hV:Below w2.heap.size w2 V) (a b c:Value) :
  im lo (d_ V (B+1+1) a b c) sp X vs vf us'/\Fx lo w (d_ V (B+1+1) a b c) (MB sp vs vf us) (MB sp vs vf us'):=by
 refine⟨hS2.keep (λk q=>?_),Fx.wrap hBL hF2 ((hV.mono ω).trans (ru _ _ _ _ _ ω)) hlo⟩;rw[iE _ _ _ _ _ (λe=>hnb (by rw[<-e];exact q))];exact hV.block k (hS2.mb q).2
def vE {l:List Nat} (h0:IL lo w v l) (h:IL lo w2 v l) (hB:B=w.heap.size) (hV:Below w2.heap.size w2 V) (a b c:Value):IL lo (d_ V (B+1+1) a b c) v l:=h.keep (λk e=>by
 have h1:=(h0.lt e).2;rw[iE _ _ _ _ _ ω]
 exact hV.block k (h.lt e).2)
def vG {w4:World}{l:List Nat} (h:IL lo w4 v l) (hD:B+1+1<D) (hv:∀ b,v.ownBlock=some b->D+1<=b) (a b c:Value):IL lo (d_ (w4.setCell ⟨D,o,none⟩ u) (B+1+1) a b c) v l:=h.keep (λk e=>by
 have h1:=hv k e
 rw[iE _ _ _ _ _ ω,ah _ _ _ _ ω])
def AF (h:im lo w sp x vs vf us) (hlo:lo<=w.heap.size) (hp:vD lo w (MB sp vs vf us) f l p) (hq:vD lo w (MB sp vs vf us) f2 l2 q)  (hN:N<=800000000) (hb:Sm N x p) (G:q.first.length<=1000/\q.last.length<=1000) :
  Calls prog 89 #[.pointer (some ⟨sp,0,none⟩),j_ p.em f l,j_ q.em f2 l2] w λe w'=>∃ r f' l',e=.returned (j_ (cE p q).em f' l')/\im lo w' sp (x.beh p q) vs vf r/\vD lo w' (MB sp vs vf r) f' l' (cE p q)/\Fx lo w w' (MB sp vs vf us) (MB sp vs vf r):=by
 obtain⟨a1,n1,c1,h6⟩:=hp.f.shape;obtain⟨a2,n2,c2,g6⟩:=hp.l.shape;obtain⟨a3,n3,c3,b5⟩:=hq.f.shape;obtain⟨a4,n4,c4,g9⟩:=hq.l.shape;subst h6;subst g6;subst b5;subst g9;have HF:Hid (∀ W,Below w.heap.size w W->Calls prog 156 #[.pointer (some ⟨sp,0,none⟩),.slice a2 n2 c2,.slice a3 n3 c3] W λe w'=>∃ r,e=.returned (.tuple #[])/\im lo w' sp (x.beh p q) vs vf r/\Fx lo W w' (MB sp vs vf us) (MB sp vs vf r)):=λW hW=>
  oV (h.below hW) (Zc hlo hW.size) (hp.l.below hW) (hq.f.below hW) hp.ml hq.mf hb.b N hb.r (by
   have:=Nat.mul_le_mul hb.l G.1;have:=G.1
   omega) (η hb.l)
 have g4:Hid (∀ b,MB sp vs vf us b->b<w.heap.size):=λb q=>(h.mb q).2
 have a7:Hid (vD lo w (MB sp vs vf us) (.slice a1 n1 c1) (.slice a2 n2 c2) p/\vD lo w (MB sp vs vf us) (.slice a3 n3 c3) (.slice a4 n4 c4) q):=⟨hp,hq⟩
 have f3:Hid (p.first.length<=1000/\p.last.length<=1000/\q.first.length<=1000/\q.last.length<=1000):=⟨hb.f,hb.l,G.1,G.2⟩
 obtain⟨e1,d6⟩:=zx p.em;obtain⟨e2,e7⟩:=zx q.em;have c0:Hid (e1=p.em):=d6;have c7:Hid (e2=q.em):=e7;rw[<-d6,<-e7];clear h hp hq hb G d6 e7
 go_enter func89,ntmps89
 go_upto_region 1 with(fail)
 obtain⟨W1,Y⟩:=zx (((w.alloc (.cells #[.bool e1,.slice a1 n1 c1,.slice a2 n2 c2] 108)).alloc (.cells #[.bool e2,.slice a3 n3 c3,.slice a4 n4 c4] 108)).alloc (.cells #[.bool false,.slice none 0 0,.slice none 0 0] 108));obtain⟨B,hB⟩:=zx w.heap.size;have f9:W1.heap.size=B+3:=by rw[Y,hB];simp
 have U:Hid (Below w.heap.size w W1):=by show Below _ _ _;rw[Y];exact(ZA.alloc χ _).alloc σ _
 have f4:Hid (W1.heap[B]?=some (.cells #[.bool e1,.slice a1 n1 c1,.slice a2 n2 c2] 108)):=by
  show _=_;rw[Y,hB];exact((Ze _ _ _ σ).trans (Ze _ _ _ χ)).trans (Za w _)
 have f8:Hid (W1.heap[B+1]?=some (.cells #[.bool e2,.slice a3 n3 c3,.slice a4 n4 c4] 108)):=by
  show _=_;rw[Y,hB];have:=Za (w.alloc (.cells #[.bool e1,.slice a1 n1 c1,.slice a2 n2 c2] 108)) (.cells #[.bool e2,.slice a3 n3 c3,.slice a4 n4 c4] 108);exact(Ze _ _ _ χ).trans (by simpa using this)
 have g8:Hid (W1.heap[B+2]?=some (.cells #[.bool false,.slice none 0 0,.slice none 0 0] 108)):=by
  show _=_;rw[Y,hB];have:=Za ((w.alloc (.cells #[.bool e1,.slice a1 n1 c1,.slice a2 n2 c2] 108)).alloc (.cells #[.bool e2,.slice a3 n3 c3,.slice a4 n4 c4] 108)) (.cells #[.bool false,.slice none 0 0,.slice none 0 0] 108)
  simpa using this
 rw[<-Y,<-hB];obtain⟨s0,s1,s2⟩:=dL f4.out;obtain⟨t0,t1,t2⟩:=dL f8.out;have H:Hid (B=w.heap.size):=hB;have g3:Hid (W1.heap.size=B+3):=f9;clear Y hB f9
 go_upto_region 2 with(go_at_call 156;refine(HF.out _ U.out).mono ?_;rintro e w2 ⟨r,rfl,f0,b5⟩;have T:Hid (im lo w2 sp (x.beh p q) vs vf r):=f0;have L:Hid (Fx lo W1 w2 (MB sp vs vf us) (MB sp vs vf r)):=b5;clear f0 b5)
 clear s0 s1 s2 t0 t1 t2;have Z:Hid (∀ b,B<=b->b<B+3->w2.heap[b]?=W1.heap[b]?/\¬ MB sp vs vf r b):=λb h1 h2=>by
  have h3:=g3.out;have h4:=H.out;have h5:¬ MB sp vs vf us b:=λq=>by have:=g4.out b q;omega
  refine⟨L.out.kp b ω h5,λq=>?_⟩;rcases L.out.nw b q with q|q
  .exact h5 q
  .omega
 have K:Hid (B+3<=w2.heap.size):=by show _<=_;have:=L.out.bl.size;have:=g3.out;omega
 have A:Hid (vD lo w2 (MB sp vs vf r) (.slice a1 n1 c1) (.slice a2 n2 c2) p/\vD lo w2 (MB sp vs vf r) (.slice a3 n3 c3) (.slice a4 n4 c4) q):=⟨(a7.out.1.below U.out).frame L.out,(a7.out.2.below U.out).frame L.out⟩
 have d4:lo<=w2.heap.size:=by have:=H.out;have:=K.out;omega
 have f7:Hid (∀ W,Below w2.heap.size w2 W->Calls prog 90 #[.slice a1 n1 c1,.slice a3 n3 c3] W λe w'=>∃ v',e=.returned v'/\IL lo w' v' (p.first++q.first)/\(∀ b,v'.ownBlock=some b->W.heap.size<=b)/\Below W.heap.size W w'):=λW hW=>jD (A.out.1.f.below hW) (A.out.2.f.below hW) (Zc d4 hW.size) (η f3.out)
 have f1:Hid (∀ W,Below w2.heap.size w2 W->Calls prog 90 #[.slice a2 n2 c2,.slice a4 n4 c4] W λe w'=>∃ v',e=.returned v'/\IL lo w' v' (p.last++q.last)/\(∀ b,v'.ownBlock=some b->W.heap.size<=b)/\Below W.heap.size W w'):=λW hW=>jD (A.out.1.l.below hW) (A.out.2.l.below hW) (Zc d4 hW.size) (η f3.out)
 have e6:=((Z.out B zq ω).1).trans f4.out;have d5:=((Z.out (B+1) ω ω).1).trans f8.out;obtain⟨s0,s1,s2⟩:=dL e6;obtain⟨t0,t1,t2⟩:=dL d5
 cases e1<;>cases e2
 all_goals
  go_upto_region 3 with(fail)
  generalize b9:w2.alloc _=W3;obtain⟨D,hD⟩:=zx w2.heap.size;have HD:Hid (D=w2.heap.size):=hD;have y:Hid (Below w2.heap.size w2 W3):=by show Below _ _ _;rw[<-b9];exact ZA
  have hd:=Lx b9;rw[<-hD] at hd;have e0:Hid (W3.heap.size=D+1):=by show _=_;rw[<-b9,hD];simp
  rw[<-hD];have d9:=(y.out.block B (η K.out)).trans e6;have e9:=(y.out.block (B+1) (η K.out)).trans d5;have G:=(y.out.block (B+1+1) (η K.out)).trans (((Z.out (B+1+1) ω ω).1).trans g8.out);have g7:Hid (W3.heap[B]?=_):=d9;have f5:Hid (W3.heap[B+1]?=_):=e9;have b4:Hid (W3.heap[B+1+1]?=_):=G;have e4:Hid (W3.heap[D]?=_):=hd;have j:Hid (B+1+1<D):=by show _<_;have:=K.out;have:=HD.out;omega
  clear s0 s1 s2 t0 t1 t2 b9 hD e6 d5;obtain⟨s0,s1,s2⟩:=dL d9;obtain⟨t0,t1,t2⟩:=dL e9;obtain⟨r0,r1,r2⟩:=dL G;obtain⟨d0,d1,d2⟩:=dL hd;have zr:∀ o,W3.frozen? ⟨B+1+1,o,none⟩=false:=λo=>by simp[frozen?,G]
  have zd:∀ o,W3.frozen? ⟨D,o,none⟩=false:=λo=>by simp[frozen?,hd]
  clear d9 e9 G hd
 .go_wp2
  have a6:cE p q=⟨false,p.first,q.last⟩:=by unfold cE;rw[<-c0.out,<-c7.out];rfl
  have E:Below w2.heap.size w2 (W3):=y.out;have a5:(d_ (W3) (B+1+1) (.bool false) (.slice a1 n1 c1) (.slice a4 n4 c4)).heap[B+1+1]?=_:=kO (b4.out) _ _ _;obtain⟨g0,g1,g2⟩:=dL a5;obtain⟨k1,k2⟩:=pI U.out L.out T.out hlo H.out (Z.out (B+1+1) ω ω).2 K.out E (.bool false) (.slice a1 n1 c1) (.slice a4 n4 c4);change bodyPost _ _ _ _ _ (d_ (W3) (B+1+1) (.bool false) (.slice a1 n1 c1) (.slice a4 n4 c4));rw[a6];refine Zb (v:=j_ false (.slice a1 n1 c1) (.slice a4 n4 c4)) (by simp[results,results89,go_sem,g0,g1,g2]) rfl ⟨r,_,_,rfl,k1,⟨vE a7.out.1.f A.out.1.f H.out E _ _ _,vE a7.out.2.l A.out.2.l H.out E _ _ _,A.out.1.mf,A.out.2.ml⟩,k2⟩
 .have C:Hid (W3.heap[D]?=_):=e4.out;have F:Hid (W3.heap[B+1+1]?=_):=b4.out;have z:D+1<=W3.heap.size:=Nat.le_of_eq e0.out.symm;have I:B+1+1≠D:=ne_of_lt j.out;have c8:D≠B+1+1:=Ne.symm I
  go_upto_region 7 with(go_at_call 90;refine(f1.out _ y.out).mono ?_;rintro e w4 ⟨v,rfl,hi,hf,hb⟩;obtain⟨ya,yn,yc,rfl⟩:=hi.shape;have a9:Hid (IL lo w4 (.slice ya yn yc) (p.last++q.last)):=hi;have s:Hid (∀ b,(Value.slice ya yn yc).ownBlock=some b->D+1<=b):=(λb e=>Zc z (hf b e));have t:Hid (Below W3.heap.size W3 w4):=hb;have d:=(hb.block D z).trans C.out;have i:=(hb.block (B+1+1) (Zd (lt_succ_of_lt j.out) z)).trans F.out;have a8:Hid (w4.heap[D]?=_):=d;have S:Hid (w4.heap[B+1+1]?=_):=i;obtain⟨b0,b7,b8⟩:=dL d;obtain⟨b6,b2,c6⟩:=dL i;have b3:∀ o,w4.frozen? ⟨B+1+1,o,none⟩=false:=(λo=>by simp[frozen?,i]);have b1:∀ o,w4.frozen? ⟨D,o,none⟩=false:=(λo=>by simp[frozen?,d]);clear hi hf hb d i)
  go_wp2
  have a6:cE p q=⟨false,p.first,p.last++q.last⟩:=by unfold cE;rw[<-c0.out,<-c7.out];rfl
  have E:Below w2.heap.size w2 (w4.setCell ⟨D,2,none⟩ (.slice ya yn yc)):=(y.out.trans (t.out.mono y.out.size)).setCell (p:=⟨D,2,none⟩) (Nat.le_of_eq HD.out.symm) _;have a5:(d_ (w4.setCell ⟨D,2,none⟩ (.slice ya yn yc)) (B+1+1) (.bool false) (.slice a1 n1 c1) (.slice ya yn yc)).heap[B+1+1]?=_:=kO ((ah _ _ _ _ I).trans S.out) _ _ _;obtain⟨g0,g1,g2⟩:=dL a5;obtain⟨k1,k2⟩:=pI U.out L.out T.out hlo H.out (Z.out (B+1+1) ω ω).2 K.out E (.bool false) (.slice a1 n1 c1) (.slice ya yn yc);change bodyPost _ _ _ _ _ (d_ (w4.setCell ⟨D,2,none⟩ (.slice ya yn yc)) (B+1+1) (.bool false) (.slice a1 n1 c1) (.slice ya yn yc));rw[a6];refine Zb (v:=j_ false (.slice a1 n1 c1) (.slice ya yn yc)) (by simp[results,results89,go_sem,g0,g1,g2]) rfl ⟨r,_,_,rfl,k1,⟨vE a7.out.1.f A.out.1.f H.out E _ _ _,vG a9.out j.out s.out _ _ _,A.out.1.mf,λb e m=>by have h1:=s.out b e;have h2:=(T.out.mb m).2;have h3:=HD.out;omega⟩,k2⟩
 .have C:Hid (W3.heap[D]?=_):=e4.out;have F:Hid (W3.heap[B+1+1]?=_):=b4.out;have z:D+1<=W3.heap.size:=Nat.le_of_eq e0.out.symm;have I:B+1+1≠D:=ne_of_lt j.out;have c8:D≠B+1+1:=Ne.symm I
  go_upto_region 5 with(go_at_call 90;refine(f7.out _ y.out).mono ?_;rintro e w4 ⟨v,rfl,hi,hf,hb⟩;obtain⟨ya,yn,yc,rfl⟩:=hi.shape;have a9:Hid (IL lo w4 (.slice ya yn yc) (p.first++q.first)):=hi;have s:Hid (∀ b,(Value.slice ya yn yc).ownBlock=some b->D+1<=b):=(λb e=>Zc z (hf b e));have t:Hid (Below W3.heap.size W3 w4):=hb;have d:=(hb.block D z).trans C.out;have i:=(hb.block (B+1+1) (Zd (lt_succ_of_lt j.out) z)).trans F.out;have a8:Hid (w4.heap[D]?=_):=d;have S:Hid (w4.heap[B+1+1]?=_):=i;obtain⟨b0,b7,b8⟩:=dL d;obtain⟨b6,b2,c6⟩:=dL i;have b3:∀ o,w4.frozen? ⟨B+1+1,o,none⟩=false:=(λo=>by simp[frozen?,i]);have b1:∀ o,w4.frozen? ⟨D,o,none⟩=false:=(λo=>by simp[frozen?,d]);clear hi hf hb d i)
  have k0:(w4.setCell ⟨D,1,none⟩ (.slice ya yn yc)).heap[B+1]?=_:=(ah _ _ _ _ (η j.out)).trans ((t.out.block (B+1) (η j.out)).trans f5.out);obtain⟨h9,h8,h7⟩:=dL k0;clear k0;go_wp2
  have a6:cE p q=⟨false,p.first++q.first,q.last⟩:=by unfold cE;rw[<-c0.out,<-c7.out];rfl
  have E:Below w2.heap.size w2 (w4.setCell ⟨D,1,none⟩ (.slice ya yn yc)):=(y.out.trans (t.out.mono y.out.size)).setCell (p:=⟨D,1,none⟩) (Nat.le_of_eq HD.out.symm) _;have a5:(d_ (w4.setCell ⟨D,1,none⟩ (.slice ya yn yc)) (B+1+1) (.bool false) (.slice ya yn yc) (.slice a4 n4 c4)).heap[B+1+1]?=_:=kO ((ah _ _ _ _ I).trans S.out) _ _ _;obtain⟨g0,g1,g2⟩:=dL a5;obtain⟨k1,k2⟩:=pI U.out L.out T.out hlo H.out (Z.out (B+1+1) ω ω).2 K.out E (.bool false) (.slice ya yn yc) (.slice a4 n4 c4);change bodyPost _ _ _ _ _ (d_ (w4.setCell ⟨D,1,none⟩ (.slice ya yn yc)) (B+1+1) (.bool false) (.slice ya yn yc) (.slice a4 n4 c4));rw[a6];refine Zb (v:=j_ false (.slice ya yn yc) (.slice a4 n4 c4)) (by simp[results,results89,go_sem,g0,g1,g2]) rfl ⟨r,_,_,rfl,k1,⟨vG a9.out j.out s.out _ _ _,vE a7.out.2.l A.out.2.l H.out E _ _ _,λb e m=>by have h1:=s.out b e;have h2:=(T.out.mb m).2;have h3:=HD.out;omega,A.out.2.ml⟩,k2⟩
 .have C:Hid (W3.heap[D]?=_):=e4.out;have F:Hid (W3.heap[B+1+1]?=_):=b4.out;have z:D+1<=W3.heap.size:=Nat.le_of_eq e0.out.symm;have I:B+1+1≠D:=ne_of_lt j.out;have c8:D≠B+1+1:=Ne.symm I
  go_upto_region 5 with(go_at_call 90;refine(f7.out _ y.out).mono ?_;rintro e w4 ⟨v,rfl,hi,hf,hb⟩;obtain⟨ya,yn,yc,rfl⟩:=hi.shape;have a9:Hid (IL lo w4 (.slice ya yn yc) (p.first++q.first)):=hi;have s:Hid (∀ b,(Value.slice ya yn yc).ownBlock=some b->D+1<=b):=(λb e=>Zc z (hf b e));have t:Hid (Below W3.heap.size W3 w4):=hb;have d:=(hb.block D z).trans C.out;have i:=(hb.block (B+1+1) (Zd (lt_succ_of_lt j.out) z)).trans F.out;have a8:Hid (w4.heap[D]?=_):=d;have S:Hid (w4.heap[B+1+1]?=_):=i;obtain⟨b0,b7,b8⟩:=dL d;obtain⟨b6,b2,c6⟩:=dL i;have b3:∀ o,w4.frozen? ⟨B+1+1,o,none⟩=false:=(λo=>by simp[frozen?,i]);have b1:∀ o,w4.frozen? ⟨D,o,none⟩=false:=(λo=>by simp[frozen?,d]);clear hi hf hb d i)
  obtain⟨W5,J⟩:=zx (w4.setCell ⟨D,1,none⟩ (.slice ya yn yc));have h0:Hid (W5=w4.setCell ⟨D,1,none⟩ (.slice ya yn yc)):=J;have e5:Hid (Below w2.heap.size w2 W5):=by show Below _ _ _;rw[J];exact(y.out.trans (t.out.mono y.out.size)).setCell (p:=⟨D,1,none⟩) (Nat.le_of_eq HD.out.symm) _
  have d8:D+1<=W5.heap.size:=by rw[J,cQ];exact Zc z t.out.size
  have k0:W5.heap[B]?=some (.cells #[.bool true,.slice a1 n1 c1,.slice a2 n2 c2] 108):=by rw[J];exact(ah _ _ _ _ (η j.out)).trans ((t.out.block B (η j.out)).trans g7.out)
  have k1:W5.heap[B+1]?=some (.cells #[.bool true,.slice a3 n3 c3,.slice a4 n4 c4] 108):=by rw[J];exact(ah _ _ _ _ (η j.out)).trans ((t.out.block (B+1) (η j.out)).trans f5.out)
  have d7:Hid (W5.heap[B+1+1]?=some (.cells #[.bool false,.slice none 0 0,.slice none 0 0] 108)):=by show _=_;rw[J];exact(ah _ _ _ _ I).trans S.out
  have e3:Hid (W5.heap[D]?=some (.cells #[.bool true,.slice ya yn yc,.slice a4 n4 c4] 108)):=by show _=_;rw[J,ap a8.out];rfl
  rw[<-J];clear s0 s1 s2 t0 t1 t2 r0 r1 r2 d0 d1 d2 zr zd b0 b7 b8 b6 b2 c6 b3 b1 a8 S J;obtain⟨s0,s1,s2⟩:=dL k0;obtain⟨t0,t1,t2⟩:=dL k1;clear k0 k1
  go_upto_region 7 with(go_at_call 90;refine(f1.out _ e5.out).mono ?_;rintro e w6 ⟨v,rfl,hi,hf,hb⟩;obtain⟨za,zn,zc,rfl⟩:=hi.shape;have g5:Hid (IL lo w6 (.slice za zn zc) (p.last++q.last)):=hi;have c9:Hid (∀ b,(Value.slice za zn zc).ownBlock=some b->D+1<=b):=(λb e=>Zc d8 (hf b e));have d3:Hid (Below W5.heap.size W5 w6):=hb;have d:=(hb.block D d8).trans e3.out;have i:=(hb.block (B+1+1) (Zd (lt_succ_of_lt j.out) d8)).trans d7.out;have a8:Hid (w6.heap[D]?=_):=d;have S:Hid (w6.heap[B+1+1]?=_):=i;obtain⟨b0,b7,b8⟩:=dL d;obtain⟨b6,b2,c6⟩:=dL i;have b3:∀ o,w6.frozen? ⟨B+1+1,o,none⟩=false:=(λo=>by simp[frozen?,i]);have b1:∀ o,w6.frozen? ⟨D,o,none⟩=false:=(λo=>by simp[frozen?,d]);clear hi hf hb d i)
  go_wp2
  have f6:IL lo W5 (.slice ya yn yc) (p.first++q.first):=a9.out.keep (λb e=>by rw[h0.out];exact ah _ _ _ _ (η (s.out b e)));have a6:cE p q=⟨true,p.first++q.first,p.last++q.last⟩:=by unfold cE;rw[<-c0.out,<-c7.out];rfl
  have E:Below w2.heap.size w2 (w6.setCell ⟨D,2,none⟩ (.slice za zn zc)):=(e5.out.trans (d3.out.mono e5.out.size)).setCell (p:=⟨D,2,none⟩) (Nat.le_of_eq HD.out.symm) _;have a5:(d_ (w6.setCell ⟨D,2,none⟩ (.slice za zn zc)) (B+1+1) (.bool true) (.slice ya yn yc) (.slice za zn zc)).heap[B+1+1]?=_:=kO ((ah _ _ _ _ I).trans S.out) _ _ _;obtain⟨g0,g1,g2⟩:=dL a5;obtain⟨k1,k2⟩:=pI U.out L.out T.out hlo H.out (Z.out (B+1+1) ω ω).2 K.out E (.bool true) (.slice ya yn yc) (.slice za zn zc);change bodyPost _ _ _ _ _ (d_ (w6.setCell ⟨D,2,none⟩ (.slice za zn zc)) (B+1+1) (.bool true) (.slice ya yn yc) (.slice za zn zc));rw[a6];refine Zb (v:=j_ true (.slice ya yn yc) (.slice za zn zc)) (by simp[results,results89,go_sem,g0,g1,g2]) rfl ⟨r,_,_,rfl,k1,⟨vG (f6.below d3.out) j.out s.out _ _ _,vG g5.out j.out c9.out _ _ _,λb e m=>by have h1:=s.out b e;have h2:=(T.out.mb m).2;have h3:=HD.out;omega,λb e m=>by have h1:=c9.out b e;have h2:=(T.out.mb m).2;have h3:=HD.out;omega⟩,k2⟩
open Sx (bL RT Tr aV bQ)
def Sv (lo sp:Nat) (x:Rx) (n N:Nat) (w:World) (O:Nat->Prop):Prop:=∃ vs vf us,O=MB sp vs vf us/\im lo w sp x vs vf us/\Xn n x/\(∀ i,(x.fol.getD i []).length<=N)/\lo<=w.heap.size
structure Pv (lo:Nat) (w:World) (O:Nat->Prop) (n m:Nat) (f l:Value) (p:Rp):Prop where
 pc:vD lo w O f l p
 b:Pn n p
 lf:p.first.length<=m
 ll:p.last.length<=m
structure Bx (w:World) (O:Nat->Prop) (b:Nat) (e:Bool) (f l:Value):Prop where
 h:w.heap[b]?=some (.cells #[.bool e,f,l] 108)
 o:¬ O b
section
variable {lo sp:Nat}{x:Rx}{n N m:Nat}{w w':World}{O O':Nat->Prop}{f l:Value}{p:Rp}{b:Nat}{e:Bool}
def Sv.base (h:Sv lo sp x n N w O):lo<=w.heap.size:=by obtain⟨_,_,_,_,_,_,_,q⟩:=h;exact q
def Sv.lt (h:Sv lo sp x n N w O) (hb:O b):lo<=b/\b<w.heap.size:=by obtain⟨_,_,_,rfl,q,_⟩:=h;exact q.mb hb
theorem Sv.below (h:Sv lo sp x n N w O) (g:Below w.heap.size w w'):Sv lo sp x n N w' O:=by
 obtain⟨vs,vf,us,e1,e2,e3,e4,e5⟩:=h;exact⟨vs,vf,us,e1,e2.below g,e3,e4,Zc e5 g.size⟩
theorem tZ (V:World) (g:Nat) (a b c:Value):(d_ V g a b c).heap.size=V.heap.size:=by simp[d_]
def Sv.put (h:Sv lo sp x n N w O) (hb:¬ O b) (u1 u2 u3:Value):Sv lo sp x n N (d_ w b u1 u2 u3) O:=by
 obtain⟨vs,vf,us,rfl,e2,e3,e4,e5⟩:=h;exact⟨vs,vf,us,rfl,e2.keep (λk q=>iE _ _ _ _ _ (λe=>hb (e▸q))),e3,e4,by rw[tZ];exact e5⟩
theorem Pv.below (h:Pv lo w O n m f l p) (g:Below w.heap.size w w'):Pv lo w' O n m f l p:=⟨h.pc.below g,h.b,h.lf,h.ll⟩
theorem Pv.frame (h:Pv lo w O n m f l p) (g:Fx lo w w' O O'):Pv lo w' O' n m f l p:=⟨h.pc.frame g,h.b,h.lf,h.ll⟩
theorem Pv.mono (h:Pv lo w O n m f l p) {n' m':Nat} (h1:n<=n') (h2:m<=m'):Pv lo w O n' m' f l p:=⟨h.pc,h.b.mono h1,Zc h.lf h2,Zc h.ll h2⟩
variable (lo w O) in
theorem Pv.nil (n m:Nat) (e:Bool):Pv lo w O n m (.slice none 0 0) (.slice none 0 0) ⟨e,[],[]⟩:=⟨vD.nil _ _ _ _,Pn.nil _ _,Zk _,Zk _⟩
theorem Pv.may (h:Pv lo w O n m f l p):Pv lo w O n m f l p.may:=⟨⟨h.pc.f,h.pc.l,h.pc.mf,h.pc.ml⟩,h.b.may,h.lf,h.ll⟩
def Pv.put (h:Pv lo w O n m f l p)  (hb:w.heap[b]?=some (.cells cs 108)) (u1 u2 u3:Value):Pv lo (d_ w b u1 u2 u3) O n m f l p:=by
 have key:∀ {v:Value}{k:List Nat},IL lo w v k->IL lo (d_ w b u1 u2 u3) v k:=λg=>g.keep (λj e=>by
  obtain⟨d,q⟩:=az g.o e
  exact iE _ _ _ _ _ (aU q hb Zr))
 exact⟨⟨key h.pc.f,key h.pc.l,h.pc.mf,h.pc.ml⟩,h.b,h.lf,h.ll⟩
theorem Pv.shape (h:Pv lo w O n m f l p):∃ a1 n1 c1 a2 n2 c2,f=.slice a1 n1 c1/\l=.slice a2 n2 c2:=by
 obtain⟨a1,n1,c1,h1⟩:=h.pc.f.shape;obtain⟨a2,n2,c2,h2⟩:=h.pc.l.shape;exact⟨a1,n1,c1,a2,n2,c2,h1,h2⟩
def Bx.lt (h:Bx w O b e f l):b<w.heap.size:=(ZC h.h)
def Bx.frame (h:Bx w O b e f l) (g:Fx lo w w' O O'):Bx w' O' b e f l:=⟨(g.kp b h.lt h.o).trans h.h,λq=>by
 rcases g.nw b q with q|q
 .exact h.o q
 .have:=h.lt;omega⟩
def Bx.below (h:Bx w O b e f l) (g:Below w.heap.size w w'):Bx w' O b e f l:=⟨(g.block b h.lt).trans h.h,h.o⟩
def Bx.put (h:Bx w O b e f l)  (hb:b≠b') (u1 u2 u3:Value):Bx (d_ w b' u1 u2 u3) O b e f l:=⟨(iE _ _ _ _ _ hb).trans h.h,h.o⟩
def Bx.own (h:Bx w O b e f l) (e':Bool) (f' l':Value):Bx (d_ w b (.bool e') f' l') O b e' f' l':=⟨kO h.h _ _ _,h.o⟩
def Bx.cells (h:Bx w O b e f l):w.cell? ⟨b,0,none⟩=some (.bool e)/\w.cell? ⟨b,1,none⟩=some f/\w.cell? ⟨b,2,none⟩=some l:=dL h.h
def Bx.fz (h:Bx w O b e f l) (o:Nat):w.frozen? ⟨b,o,none⟩=false:=by simp[frozen?,h.h]
def Bx.new (h:Sv lo sp x n N w O):Bx (w.alloc (.cells #[.bool e,f,l] 108)) O w.heap.size e f l:=⟨Za w _,λq=>by have:=(h.lt q).2;omega⟩
def Fx.put (h:Fx lo w0 w O0 O) (hlo:lo<=w0.heap.size) (hb:w0.heap.size<=b) (u1 u2 u3:Value):Fx lo w0 (d_ w b u1 u2 u3) O0 O:=
 ⟨h.bl.trans (ru _ _ _ _ _ ω),λk hk q=>(iE _ _ _ _ _ ω).trans (h.kp k hk q),h.nw⟩
def Fx.low (h:Fx lo w0 w O0 O) (hlo:lo<=w.heap.size) (g:Below w.heap.size w w'):Fx lo w0 w' O0 O:=
 ⟨h.bl.trans (g.mono hlo),λk hk q=>(g.block k (Zd hk h.bl.size)).trans (h.kp k hk q),h.nw⟩
def Sv.set (h:Sv lo sp x n N w O) (hb:¬ O b) (o:Nat) (u:Value):Sv lo sp x n N (w.setCell ⟨b,o,none⟩ u) O:=by
 obtain⟨vs,vf,us,rfl,e2,e3,e4,e5⟩:=h;exact⟨vs,vf,us,rfl,e2.keep (λk q=>ah _ _ _ _ (λe=>hb (e▸q))),e3,e4,by simpa using e5⟩
def Pv.set (h:Pv lo w O n m f l p)  (hb:w.heap[b]?=some (.cells cs 108)) (o:Nat) (u:Value):Pv lo (w.setCell ⟨b,o,none⟩ u) O n m f l p:=by
 have key:∀ {v:Value}{k:List Nat},IL lo w v k->IL lo (w.setCell ⟨b,o,none⟩ u) v k:=λg=>g.keep (λj e=>by
  obtain⟨d,q⟩:=az g.o e
  exact ah _ _ _ _ (aU q hb Zr))
 exact⟨⟨key h.pc.f,key h.pc.l,h.pc.mf,h.pc.ml⟩,h.b,h.lf,h.ll⟩
def Fx.set (h:Fx lo w0 w O0 O) (hlo:lo<=w0.heap.size) (hb:w0.heap.size<=b) (o:Nat) (u:Value):Fx lo w0 (w.setCell ⟨b,o,none⟩ u) O0 O:=
 ⟨h.bl.setCell (p:=⟨b,o,none⟩) (by show lo<=b;omega) _,λk hk q=>(ah _ _ _ _ ω).trans (h.kp k hk q),h.nw⟩
def Sv.more (h:Sv lo sp x n N w O)  (hN:N<=N'):Sv lo sp x n N' w O:=by
 obtain⟨vs,vf,us,e1,e2,e3,e4,e5⟩:=h;exact⟨vs,vf,us,e1,e2,e3,λi=>Zc (e4 i) hN,e5⟩
end
def kP {n N m1 m2:Nat} (h:Sv lo sp x n N w O) (hp:Pv lo w O n m1 f l p) (hq:Pv lo w O n m2 f2 l2 q) (hm:m1+m2<=64) (hN:N<=800000000) :
  Calls prog 89 #[.pointer (some ⟨sp,0,none⟩),j_ p.em f l,j_ q.em f2 l2] w λe w'=>∃ O' f' l',e=.returned (j_ (cE p q).em f' l')/\Sv lo sp (x.beh p q) n (N+4096) w' O'/\Pv lo w' O' n (m1+m2) f' l' (cE p q)/\Fx lo w w' O O':=by
 obtain⟨vs,vf,us,rfl,h1,h2,h3,h4⟩:=h;have a1:=hp.lf;have a2:=hp.ll;have a3:=hq.lf;have a4:=hq.ll;refine(AF h1 h4 hp.pc hq.pc hN ⟨h3,ω,ω,λi hi=>by rw[h2.f];exact hp.b.l i hi⟩ ⟨ω,ω⟩).mono ?_;rintro e w' ⟨d,f',l',rfl,g1,g2,g3⟩;obtain⟨b1,b2⟩:=Gn p q;exact⟨_,f',l',rfl,⟨vs,vf,d,rfl,g1,h2.beh _ _,B2 h3 ω ω,Zc h4 g3.bl.size⟩,⟨g2,hp.b.beh hq.b,ω,ω⟩,g3⟩
def vH (h:Sv lo sp x n N w O) (hp:Pv lo w O n m f l p) (hm:m<=64) (hN:N<=800000000) :
  Calls prog 155 #[.pointer (some ⟨sp,0,none⟩),j_ p.em f l] w λe w'=>∃ O',e=.returned (j_ true f l)/\Sv lo sp (x.beh p p) n (N+4096) w' O'/\Pv lo w' O' n m f l p/\Fx lo w w' O O':=by
 obtain⟨vs,vf,us,rfl,h1,h2,h3,h4⟩:=h;have a1:=hp.lf;have a2:=hp.ll;refine(AE h1 h4 hp.pc hN ⟨h3,ω,ω,λi hi=>by rw[h2.f];exact hp.b.l i hi⟩).mono ?_;rintro e w' ⟨d,rfl,g1,g3⟩;exact⟨_,rfl,⟨vs,vf,d,rfl,g1,h2.beh _ _,B2 h3 ω ω,Zc h4 g3.bl.size⟩,hp.frame g3,g3⟩
abbrev Gw (fn lo g:Nat) (f:RM) (k c:Nat) (Q:World->Prop):Prop:=∀ w sp x n N O,Sv lo sp x n N w O->Q w->n+k<=64->N+4096*c<=800000000->Calls prog fn #[.pointer (some ⟨sp,0,none⟩),.pointer (some ⟨g,0,none⟩)] w λe w'=>∃ O' f' l',e=.returned (j_ (f x).1.em f' l')/\Sv lo sp (f x).2 (n+k) (N+4096*c) w' O'/\Pv lo w' O' (n+k) k f' l' (f x).1/\Fx lo w w' O O'
structure Tk (lo:Nat) (w:World) (g:Nat) (mn mx sg:Int) (M cap g':Nat):Prop where
 t:∃ B,Tr w g 3 B (.slice (some ⟨M,0,none⟩) 1 cap) mn mx sg
 k:w.cell? ⟨M,0,none⟩=some (.pointer (some ⟨g',0,none⟩))
 lg:g<lo
 lM:M<lo
 lc:1<=cap
def Tk.low (h:Tk lo w g mn mx sg M cap g') (b:Below lo w w'):Tk lo w' g mn mx sg M cap g':=by
 obtain⟨⟨B,t⟩,k,lg,lM,lc⟩:=h;exact⟨⟨B,t.of_heap (b.block g lg)⟩,(b.cell (p:=⟨M,0,none⟩) lM).trans k,lg,lM,lc⟩
def Tk.facts (h:Tk lo w g mn mx sg M cap g'):w.cell? ⟨g,257,none⟩=some (.slice (some ⟨M,0,none⟩) 1 cap)/\w.cell? ⟨g,258,none⟩=some (.int .i64 mn)/\w.cell? ⟨g,259,none⟩=some (.int .i64 mx)/\w.cell? ⟨g,260,none⟩=some (.int .u8 sg)/\w.cell? ⟨M,0,none⟩=some (.pointer (some ⟨g',0,none⟩)):=by
 obtain⟨⟨B,t⟩,k,lg,lM,lc⟩:=h;exact⟨t.ck,t.cm,t.cx,t.cs,k⟩
def dR (h:Sv lo sp x n N w O) (e:Bool) (f l:Value):∃ W B,(W=w.alloc (.cells #[.bool e,f,l] 108)/\B=w.heap.size)/\Hid (Below w.heap.size w W)/\Hid (Sv lo sp x n N W O)/\Hid (Bx W O B e f l)/\Hid (Fx lo w W O O)/\Hid (Below lo w W)/\Hid (B=w.heap.size):=by
 have b:Below w.heap.size w (w.alloc (.cells #[.bool e,f,l] 108)):=ZA;exact⟨_,_,⟨rfl,rfl⟩,b,h.below b,Bx.new h,(Fx.refl lo w O).low h.base b,b.mono h.base,rfl⟩
open Go.RowKit
open Sx (bL RT Tr aV bQ)
def oe {f F:RM}{k c:Nat} (hc:(sg=42/\F=mS (BK f))\/(sg=43/\F=BK f)\/(sg=63/\F=mS f)) (hT:Tk lo w g mn mx sg M cap g') (hS:Sv lo sp x n N w O) (hQ:Q w) (hQm:∀ w w',Q w->Below lo w w'->Q w') (hk:Gw 47 lo g' f k c Q) (hnk:n+k<=64) (hnc:N+4096*(c+1)<=800000000):Calls prog 88 #[.pointer (some ⟨sp,0,none⟩),.pointer (some ⟨g,0,none⟩)] w λe w'=>∃ O' f' l',e=.returned (j_ (F x).1.em f' l')/\Sv lo sp (F x).2 (n+k) (N+4096*(c+1)) w' O'/\Pv lo w' O' (n+k) k f' l' (F x).1/\Fx lo w w' O O':=by
 have HC:Hid _:=hc;have HT:=zh hT;have HS:=zh hS;have HQ:=zh hQm;have HK:=zh hk;have T:=zh hnk;have H:Hid (N+4096*c<=800000000):=(by show _<=_;omega);have d9:=zh hnc;clear hc hT hS hQm hk hnk hnc
 go_enter func88,ntmps88
 go_upto_region 1 with(fail)
 obtain⟨W1,B,⟨c6,hB⟩,e5,Z,b0,a4,c4,S⟩:=dR HS.out false (.slice none 0 0) (.slice none 0 0);rw[<-c6,<-hB];clear c6 hB;have c8:=zh (HT.out.low c4.out);have a3:=zh (HQ.out _ _ hQ c4.out);clear hQ;have d8:1<=cap:=c8.out.lc;obtain⟨u0,u1,u2,u3,u4⟩:=c8.out.facts;rcases HC.out with⟨rfl,rfl⟩|⟨rfl,rfl⟩|⟨rfl,rfl⟩
 .go_upto_region 4 with(fail)
  clear u0 u1 u2 u3 u4;go_wp2_with (first|(go_at_call 47;refine(HK.out W1 sp _ _ _ _ Z.out a3.out T.out H.out).mono ?_;rintro e w2 ⟨O2,f2,l2,rfl,A,s,r⟩;obtain⟨a1,n1,c1,a2,n2,c2,rfl,rfl⟩:=s.shape;have t:=zh A;have I:=zh s;have G:=zh (b0.out.frame r);have U:=zh (a4.out.trans r);clear A s r)|(go_at_call 155;refine(vH t.out I.out (η T.out) (η H.out)).mono ?_;rintro e w3 ⟨O3,rfl,b7,b8,a5⟩;have a7:=zh b7;have a6:=zh b8;have C:=zh (G.out.frame a5);have b5:=zh (U.out.trans a5);obtain⟨x0,x1,x2⟩:=C.out.cells;have xz:=C.out.fz;clear b7 b8 a5))
  change bodyPost _ _ _ _ _ (d_ w3 B (.bool true) (.slice a1 n1 c1) (.slice a2 n2 c2));obtain⟨g0,g1,g2⟩:=(C.out.own true (.slice a1 n1 c1) (.slice a2 n2 c2)).cells;refine Zb (v:=j_ true (.slice a1 n1 c1) (.slice a2 n2 c2)) (by simp[results,results88,go_sem,g0,g1,g2]) rfl ⟨O3,_,_,rfl,?_,?_,?_⟩
  .rw[show N+4096*(c+1)=N+4096*c+4096 by omega];exact a7.out.put C.out.o _ _ _
  .exact(a6.out.may).put C.out.h _ _ _
  .exact b5.out.put HS.out.base (by rw[S.out];exact zq) _ _ _
 .go_upto_region 6 with(fail)
  clear u0 u1 u2 u3 u4
  go_upto_region 7 with(go_at_call 47;refine(HK.out W1 sp _ _ _ _ Z.out a3.out T.out H.out).mono ?_;rintro e w2 ⟨O2,f2,l2,rfl,A,s,r⟩;obtain⟨a1,n1,c1,a2,n2,c2,rfl,rfl⟩:=s.shape;have t:=zh A;have I:=zh s;have G:=zh (b0.out.frame r);have U:=zh (a4.out.trans r);clear A s r)
  obtain⟨W3,D,⟨c9,hD⟩,K,-,d4,-⟩:=dR t.out ((f x).1.em) (.slice a1 n1 c1) (.slice a2 n2 c2);rw[<-c9,<-hD];have c3:=zh d4;have C:=zh (G.out.below K);have a7:=zh (t.out.below K);have a6:=zh (I.out.below K);have b5:=zh (U.out.low t.out.base K);have e3:Hid (B<D):=by show _<_;rw[hD];exact G.out.lt
  obtain⟨d0,d1,d2⟩:=c3.out.cells;clear c9 hD K
  go_upto_region 8 with(go_at_call 155;refine(vH a7.out a6.out (η T.out) (η H.out)).mono ?_;rintro e w4 ⟨O4,rfl,c7,b9,Y⟩;have b1:=zh c7;have d5:=zh b9;have d3:=zh (C.out.frame Y);have c0:=zh (c3.out.frame Y);have d7:=zh (b5.out.trans Y);clear c7 b9 Y)
  obtain⟨W5,E,⟨L,hE⟩,d,-,b2,-⟩:=dR b1.out true (.slice a1 n1 c1) (.slice a2 n2 c2);rw[<-L,<-hE];have z:=zh b2;have y:=zh (d3.out.below d);have d6:=zh (c0.out.below d);have a9:=zh (b1.out.below d);have b4:=zh (d5.out.below d);have b3:=zh (d7.out.low b1.out.base d);have J:Hid (B<E):=by show _<_;rw[hE];exact d3.out.lt
  have e4:D≠E:=by rw[hE];exact ne_of_lt c0.out.lt
  have b6:=ne_of_lt J.out;obtain⟨e0,e1,e2⟩:=z.out.cells;have ez:=z.out.fz;clear d0 d1 d2;obtain⟨d0,d1,d2⟩:=d6.out.cells;obtain⟨x0,x1,x2⟩:=y.out.cells;have xz:=y.out.fz;clear L hE d;go_wp2
  obtain⟨W6,h⟩:=zx (W5.setCell ⟨E,0,none⟩ (.bool (f x).1.em));rw[<-h];have a8:∀ j,j≠E->W6.heap[j]?=W5.heap[j]?:=λj hj=>by rw[h,ah _ _ _ _ hj]
  have i:Bx W6 O4 B false (.slice none 0 0) (.slice none 0 0):=⟨(a8 B b6).trans y.out.h,y.out.o⟩
  change bodyPost _ _ _ _ _ (d_ W6 B (.bool (f x).1.em) (.slice a1 n1 c1) (.slice a2 n2 c2));obtain⟨g0,g1,g2⟩:=(i.own (f x).1.em (.slice a1 n1 c1) (.slice a2 n2 c2)).cells;refine Zb (v:=j_ (f x).1.em (.slice a1 n1 c1) (.slice a2 n2 c2)) (by simp[results,results88,go_sem,g0,g1,g2]) rfl ⟨O4,_,_,rfl,?_,?_,?_⟩
  .rw[show N+4096*(c+1)=N+4096*c+4096 by omega];rw[h] at i ⊢;exact(a9.out.set z.out.o _ _).put i.o _ _ _
  .rw[h] at i ⊢;exact(b4.out.set z.out.h _ _).put i.h _ _ _
  .rw[h];exact(b3.out.set HS.out.base (by rw[<-S.out];exact Nat.le_of_lt J.out) _ _).put HS.out.base (by rw[S.out];exact zq) _ _ _
 .go_upto_region 11 with(fail)
  clear u0 u1 u2 u3 u4
  go_upto_region 12 with(go_at_call 47;refine(HK.out W1 sp _ _ _ _ Z.out a3.out T.out H.out).mono ?_;rintro e w2 ⟨O2,f2,l2,rfl,A,s,r⟩;obtain⟨a1,n1,c1,a2,n2,c2,rfl,rfl⟩:=s.shape;have t:=zh A;have I:=zh s;have G:=zh (b0.out.frame r);have U:=zh (a4.out.trans r);clear A s r)
  obtain⟨W5,E,⟨L,hE⟩,d,-,b2,-⟩:=dR t.out ((f x).1.em) (.slice a1 n1 c1) (.slice a2 n2 c2);rw[<-L,<-hE];have z:=zh b2;have y:=zh (G.out.below d);have a9:=zh (t.out.below d);have b4:=zh (I.out.below d);have b3:=zh (U.out.low t.out.base d);have J:Hid (B<E):=by show _<_;rw[hE];exact G.out.lt
  have b6:=ne_of_lt J.out;obtain⟨e0,e1,e2⟩:=z.out.cells;have ez:=z.out.fz;obtain⟨x0,x1,x2⟩:=y.out.cells;have xz:=y.out.fz;clear L hE d;go_wp2
  obtain⟨W6,h⟩:=zx (W5.setCell ⟨E,0,none⟩ (.bool true));rw[<-h];have a8:∀ j,j≠E->W6.heap[j]?=W5.heap[j]?:=λj hj=>by rw[h,ah _ _ _ _ hj]
  have i:Bx W6 O2 B false (.slice none 0 0) (.slice none 0 0):=⟨(a8 B b6).trans y.out.h,y.out.o⟩
  change bodyPost _ _ _ _ _ (d_ W6 B (.bool true) (.slice a1 n1 c1) (.slice a2 n2 c2));obtain⟨g0,g1,g2⟩:=(i.own true (.slice a1 n1 c1) (.slice a2 n2 c2)).cells;refine Zb (v:=j_ true (.slice a1 n1 c1) (.slice a2 n2 c2)) (by simp[results,results88,go_sem,g0,g1,g2]) rfl ⟨O2,_,_,rfl,?_,?_,?_⟩
  .rw[h] at i ⊢;exact((a9.out.set z.out.o _ _).put i.o _ _ _).more ω
  .rw[h] at i ⊢;exact((b4.out.may).set z.out.h _ _).put i.h _ _ _
  .rw[h];exact(b3.out.set HS.out.base (by rw[<-S.out];exact Nat.le_of_lt J.out) _ _).put HS.out.base (by rw[S.out];exact zq) _ _ _
theorem t_ (f:RM):∀(j:Nat) (p:Rp) (x:Rx),bX f (j+1) p x=(cE (bX f j p x).1 (f (bX f j p x).2).1,(f (bX f j p x).2).2.beh (bX f j p x).1 (f (bX f j p x).2).1)
 |0,p,x=>by simp only[bX]
 |j+1,p,x=>by rw[bX,t_ f j];simp only[bX]
theorem rv (f:RM):∀(j:Nat) (p:Rp) (x:Rx),bY f (j+1) p x=((cE (f (bY f j p x).2).1 (bY f j p x).1).may,(f (bY f j p x).2).2.beh (f (bY f j p x).2).1 (bY f j p x).1)
 |0,p,x=>by simp only[bY]
 |j+1,p,x=>by rw[bY,rv f j];simp only[bY]
def gn (w:World):Below w.heap.size w w.drew:=ZB.drew
def MK {K L N c j N':Nat} (h:N+K*(j*(c+1)+(c+2))<=L) (e:N'=N+K*(j*(c+1))):N'+K*c<=L/\N'+K*c+K<=L/\N+K*(j*(c+1)+(c+2))=N'+K*c+K+K:=by grind
def MC {K L N c j t:Nat} (hj:j<t) (h:N+K*(t*(c+1))<=L):N+K*(j*(c+1))+K*c<=L/\N+K*(j*(c+1))+K*c+K<=L/\N+K*((j+1)*(c+1))=N+K*(j*(c+1))+K*c+K:=by
 have h1:(j+1)*(c+1)<=t*(c+1):=mul_le_mul_right _ hj;have h2:K*((j+1)*(c+1))<=K*(t*(c+1)):=mul_le_mul_left _ h1;have h3:K*((j+1)*(c+1))=K*(j*(c+1))+K*c+K:=by rw[succ_mul,Nat.mul_add,mul_succ K c,Nat.add_assoc]
 refine⟨ω,ω,ω⟩
def ML {K L N u v:Nat} (h:N+K*(u+v)<=L):N+K*u<=L:=by grind
def MD {K L N u v:Nat} (h:N+K*(u+(v+1))<=L):N+K*u+K*v<=L/\N+K*u+K*v+K<=L/\N+K*(u+(v+1))=N+K*u+K*v+K:=by grind
structure LW (lo sp:Nat) (w:World) (O:Nat->Prop) (B D:Nat) (X:Rx) (n N m:Nat) (p:Rp) (wq:World) (O':Nat->Prop) (f' l':Value):Prop where
 s:Sv lo sp X n N wq O'
 v:Pv lo wq O' n m f' l' p
 f:Fx lo w wq O O'
 b:Bx wq O' B false (.slice none 0 0) (.slice none 0 0)
 d:Bx wq O' D p.em f' l'
theorem LW.below (h:LW lo sp w O B D X n N m p wq O' f' l') (g:Below wq.heap.size wq wr):LW lo sp w O B D X n N m p wr O' f' l':=
 ⟨h.s.below g,h.v.below g,h.f.low h.s.base g,h.b.below g,h.d.below g⟩
def Bx.set {b:Nat} (h:Bx w O b e f l)  (hb:b≠b') (o:Nat) (u:Value):Bx (w.setCell ⟨b',o,none⟩ u) O b e f l:=⟨(ah _ _ _ _ hb).trans h.h,h.o⟩
def Bx.may {b:Nat} (h:Bx w O b e f l):Bx (w.setCell ⟨b,0,none⟩ (.bool true)) O b true f l:=⟨by rw[ap h.h];rfl,h.o⟩
structure LV (lo sp:Nat) (w:World) (O:Nat->Prop) (B D E:Nat) (X:Rx) (n N m:Nat) (p:Rp) (n1 m1:Nat) (F1 L1:Value) (P1:Rp) (wq:World) (O':Nat->Prop) (f' l':Value):Prop where
 s:Sv lo sp X n N wq O'
 v:Pv lo wq O' n m f' l' p
 v1:Pv lo wq O' n1 m1 F1 L1 P1
 f:Fx lo w wq O O'
 b:Bx wq O' B false (.slice none 0 0) (.slice none 0 0)
 d:Bx wq O' D P1.em F1 L1
 e:Bx wq O' E p.em f' l'
theorem LV.below {B D E:Nat}{p P1:Rp}{F1 L1:Value} (h:LV lo sp w O B D E X n N m p n1 m1 F1 L1 P1 wq O' f' l') (g:Below wq.heap.size wq wr):LV lo sp w O B D E X n N m p n1 m1 F1 L1 P1 wr O' f' l':=
 ⟨h.s.below g,h.v.below g,h.v1.below g,h.f.low h.s.base g,h.b.below g,h.d.below g,h.e.below g⟩
def ua {a b:Nat}{f:RM}{k c:Nat} (hT:Tk lo w g a mx 123 M cap g') (hS:Sv lo sp x n N w O) (hQ:Q w) (hQm:∀ w w',Q w->Below lo w w'->Q w') (hk:Gw 47 lo g' f k c Q) (ha:a<=30) {K d:Nat}{R:Rp×Rx} (hc:(mx<0/\K=a+1/\d=c+2/\R=(cE (bX f a cU x).1 (mS (BK f) (bX f a cU x).2).1,(mS (BK f) (bX f a cU x).2).2.beh (bX f a cU x).1 (mS (BK f) (bX f a cU x).2).1))\/(b<=30/\mx=(a:Int)+b/\K=a+b/\d=b*(c+1)+1/\R=(cE (bX f a cU x).1 (bY f b cU (bX f a cU x).2).1,(bY f b cU (bX f a cU x).2).2.beh (bX f a cU x).1 (bY f b cU (bX f a cU x).2).1))) (hnk:n+k*K<=64) (hnc:N+4096*(a*(c+1)+d)<=800000000):Calls prog 88 #[.pointer (some ⟨sp,0,none⟩),.pointer (some ⟨g,0,none⟩)] w λe w'=>∃ O' f' l',e=.returned (j_ R.1.em f' l')/\Sv lo sp R.2 (n+k*K) (N+4096*(a*(c+1)+d)) w' O'/\Pv lo w' O' (n+k*K) (k*K) f' l' R.1/\Fx lo w w' O O':=by
 obtain⟨mn,e1⟩:∃ mn:Int,mn=a:=⟨_,rfl⟩;obtain⟨sg,h8⟩:∃ sg:Int,sg=123:=⟨_,rfl⟩;rw[<-h8,<-e1] at hT;have HT:Hid (Tk lo w g mn mx sg M cap g'):=hT;have HS:Hid (Sv lo sp x n N w O):=hS;have HQ:Hid (∀ w w',Q w->Below lo w w'->Q w'):=hQm;have HK:Hid (Gw 47 lo g' f k c Q):=hk;clear hT hS hQm hk;have HC:Hid _:=hc;have j2:Hid (a<=K):=by show _<=_;rcases hc with h|h<;>omega
 have J:Hid (n+k*K<=64):=hnk;have d0:Hid (N+4096*(a*(c+1)+d)<=800000000):=hnc;clear hc hnk hnc
 go_enter func88,ntmps88
 go_upto_region 1 with(fail)
 obtain⟨W1,B,⟨i3,hB⟩,k7,f7,i1,j4,h9,e3⟩:=dR HS.out false (.slice none 0 0) (.slice none 0 0);rw[<-i3,<-hB];clear i3 hB;have i7:Hid (Tk lo W1 g mn mx sg M cap g'):=HT.out.low h9.out;have i4:Hid (Q w):=hQ;have h2:Hid (Q W1):=HQ.out _ _ hQ h9.out;clear hQ;have k4:1<=cap:=i7.out.lc;obtain⟨u0,u1,u2,u3,u4⟩:=i7.out.facts;subst h8
 go_upto_region 15 with(fail)
 obtain⟨W2,D,⟨i2,hD⟩,e2,-,j3,-⟩:=dR f7.out true (.slice none 0 0) (.slice none 0 0);rw[<-i2,<-hD];have k2:Hid (LW lo sp w O B D x n N 0 cU W2 O (.slice none 0 0) (.slice none 0 0)):=⟨f7.out.below e2,Pv.nil _ _ _ _ _ _,j4.out.low f7.out.base e2,i1.out.below e2,j3⟩
 have e0:Hid (B<D):=by show _<_;rw[hD];exact i1.out.lt
 clear i2 hD e2 u0 u1 u2 u3 u4;go_wp2
 go_loopw [10] (λi wq=>∃(j:Nat) (O':Nat->Prop) (f' l':Value),i=.int .i64 j/\j<=a/\LW lo sp w O B D (bX f j cU x).2 (n+k*j) (N+4096*(j*(c+1))) (k*j) (bX f j cU x).1 wq O' f' l') (λi _=>a-(intOf i).toNat)
 case atStart=>exact⟨0,O,_,_,rfl,Zk _,by simpa only [bX,Nat.mul_zero,Nat.zero_mul,Nat.add_zero] using k2.out⟩
 case round=>
  obtain⟨j,O',f',l',rfl,hj,hI⟩:=hrel
  (obtain⟨a1,n1,c1,a2,n2,c2,rfl,rfl⟩:=hI.v.shape;have i6:Hid (Tk lo wr g mn mx 123 M cap g'):=HT.out.low hI.f.bl;obtain⟨u0,u1,u2,u3,u4⟩:=i6.out.facts;rw[e1] at u1;have HI:Hid (LW lo sp w O B D (bX f j cU x).2 (n+k*j) (N+4096*(j*(c+1))) (k*j) (bX f j cU x).1 wr O' (.slice a1 n1 c1) (.slice a2 n2 c2)):=hI;clear hI)
  have i9:Q wr:=HQ.out _ _ i4.out HI.out.f.bl;have b8:Hid (Q wr.drew):=HQ.out _ _ i9 ((gn wr).mono HI.out.s.base);have y:=HI.out.below (gn wr);have y:Hid (LW lo sp w O B D (bX f j cU x).2 (n+k*j) (N+4096*(j*(c+1))) (k*j) (bX f j cU x).1 wr.drew O' (.slice a1 n1 c1) (.slice a2 n2 c2)):=y;clear i9
  by_cases hlt:j<a
  .have f5:(j:Int)<a:=ω;have T:=t_ f j cU x;have f9:k*(j+1)<=k*K:=mul_le_mul_left k (η j2.out);have L:=MC hlt (ML d0.out);have Z:k*(j+1)=k*j+k:=mul_succ k j;obtain⟨n',a7⟩:∃ n',n'=n+k*j:=⟨_,rfl⟩
   obtain⟨N',H⟩:∃ N',N'=N+4096*(j*(c+1)):=⟨_,rfl⟩
   obtain⟨m,hm⟩:∃ m,m=k*j:=⟨_,rfl⟩
   have d4:Hid (n'+k<=64):=by show _<=_;have:=J.out;omega
   rw[<-H] at L;have a9:Hid (N'+4096*c<=800000000):=L.1;have b5:Hid (m+k<=64):=by show _<=_;have:=J.out;omega
   have e4:Hid (n+k*(j+1)=n'+k):=by show _=_;omega
   have b7:Hid (N+4096*((j+1)*(c+1))=N'+4096*c+4096):=L.2.2;have C:Hid (k*(j+1)=m+k):=by show _=_;omega
   rw[<-a7,<-H,<-hm] at HI y;obtain⟨P,hP⟩:∃ P,P=(bX f j cU x).1:=⟨_,rfl⟩
   obtain⟨X,hX⟩:∃ X,X=(bX f j cU x).2:=⟨_,rfl⟩
   rw[<-hP,<-hX] at HI y T;have T:Hid (bX f (j+1) cU x=_):=T;clear a7 H hm hP hX f9 L Z;obtain⟨y0,y1,y2⟩:=HI.out.d.cells
   go_upto_region 18 with(fail)
   clear u0 u1 u2 u3 u4
   go_region_with (first|(go_at_call 47;refine(HK.out wr.drew sp _ _ _ _ y.out.s b8.out d4.out a9.out).mono ?_;rintro e w2 ⟨O2,f2,l2,rfl,Y,F,r⟩;obtain⟨a3,n3,c3,a4,n4,c4,rfl,rfl⟩:=F.shape;have c7:Hid (Sv lo sp (f X).2 (n'+k) (N'+4096*c) w2 O2):=Y;have c0:Hid (Pv lo w2 O2 (n'+k) k (.slice a3 n3 c3) (.slice a4 n4 c4) (f X).1):=F;have d6:Hid (Bx w2 O2 B false (.slice none 0 0) (.slice none 0 0)):=y.out.b.frame r;have a8:Hid (Bx w2 O2 D P.em (.slice a1 n1 c1) (.slice a2 n2 c2)):=y.out.d.frame r;have d2:Hid (Pv lo w2 O2 (n'+k) m (.slice a1 n1 c1) (.slice a2 n2 c2) P):=(y.out.v.frame r).mono (le_add_right _ _) zq;have d7:Hid (Fx lo w w2 O O2):=y.out.f.trans r;obtain⟨y0,y1,y2⟩:=a8.out.cells;clear Y F r)|(go_at_call 89;refine(kP c7.out d2.out c0.out b5.out a9.out).mono ?_;rintro e w3 ⟨O3,f3,l3,rfl,U,I,z⟩;obtain⟨a5,n5,c5,a6,n6,c6,rfl,rfl⟩:=I.shape;have c9:Hid (Sv lo sp ((f X).2.beh P (f X).1) (n'+k) (N'+4096*c+4096) w3 O3):=U;have c8:Hid (Pv lo w3 O3 (n'+k) (m+k) (.slice a5 n5 c5) (.slice a6 n6 c6) (cE P (f X).1)):=I;have d1:Hid (Bx w3 O3 B false (.slice none 0 0) (.slice none 0 0)):=d6.out.frame z;have S:Hid (Bx w3 O3 D P.em (.slice a1 n1 c1) (.slice a2 n2 c2)):=a8.out.frame z;have d8:Hid (Fx lo w w3 O O3):=d7.out.trans z;obtain⟨y0,y1,y2⟩:=S.out.cells;have yz:=S.out.fz;clear U I z))
   all_goals
    go_wp2
    go_roundw
    .refine⟨j+1,O3,.slice a5 n5 c5,.slice a6 n6 c6,π,ω,?_⟩;rw[T.out,e4.out,b7.out,C.out];exact⟨c9.out.put S.out.o _ _ _,c8.out.put S.out.h _ _ _,d8.out.put HS.out.base (by rw[<-e3.out];exact Nat.le_of_lt e0.out) _ _ _,d1.out.put (ne_of_lt e0.out) _ _ _,S.out.own _ _ _⟩
    .simp[intOf]<;>omega
  .obtain rfl:j=a:=ω;clear hlt hj;rcases HC.out with⟨g8,rfl,rfl,rfl⟩|⟨k6,g8,rfl,rfl,rfl⟩
   .have Z:k*(j+1)=k*j+k:=mul_succ k j;obtain⟨n',a7⟩:∃ n',n'=n+k*j:=⟨_,rfl⟩
    obtain⟨N',H⟩:∃ N',N'=N+4096*(j*(c+1)):=⟨_,rfl⟩
    obtain⟨m,hm⟩:∃ m,m=k*j:=⟨_,rfl⟩
    have d4:Hid (n'+k<=64):=by show _<=_;have:=J.out;omega
    have h0:=MK d0.out H;have a9:Hid (N'+4096*c+4096<=800000000):=h0.2.1;have f1:Hid (N'+4096*c<=800000000):=h0.1;have b5:Hid (m+k<=64):=by show _<=_;have:=J.out;omega
    have e4:Hid (n+k*(j+1)=n'+k):=by show _=_;omega
    have b7:Hid (N+4096*(j*(c+1)+(c+2))=N'+4096*c+4096+4096):=h0.2.2;clear h0;have C:Hid (k*(j+1)=m+k):=by show _=_;omega
    rw[<-a7,<-H,<-hm] at HI y;obtain⟨P,hP⟩:∃ P,P=(bX f j cU x).1:=⟨_,rfl⟩
    obtain⟨X,hX⟩:∃ X,X=(bX f j cU x).2:=⟨_,rfl⟩
    rw[<-hP,<-hX] at HI y;have b3:Hid ((bX f j cU x).1=P):=hP.symm;have b2:Hid ((bX f j cU x).2=X):=hX.symm;have f5:¬(j:Int)<j:=ω;clear a7 H hm hP hX Z;obtain⟨y0,y1,y2⟩:=HI.out.d.cells
    go_upto_region 20 with(fail)
    clear u0 u1 u2 u3 u4
    go_region_with (first|(go_at_call 47;refine(HK.out wr.drew sp _ _ _ _ y.out.s b8.out d4.out f1.out).mono ?_;rintro e w2 ⟨O2,f2,l2,rfl,Y,F,r⟩;obtain⟨a3,n3,c3,a4,n4,c4,rfl,rfl⟩:=F.shape;have c7:Hid (Sv lo sp (f X).2 (n'+k) (N'+4096*c) w2 O2):=Y;have c0:Hid (Pv lo w2 O2 (n'+k) k (.slice a3 n3 c3) (.slice a4 n4 c4) (f X).1):=F;have d6:Hid (Bx w2 O2 B false (.slice none 0 0) (.slice none 0 0)):=y.out.b.frame r;have a8:Hid (Bx w2 O2 D P.em (.slice a1 n1 c1) (.slice a2 n2 c2)):=y.out.d.frame r;have d2:Hid (Pv lo w2 O2 (n'+k) m (.slice a1 n1 c1) (.slice a2 n2 c2) P):=(y.out.v.frame r).mono (le_add_right _ _) zq;have d7:Hid (Fx lo w w2 O O2):=y.out.f.trans r;obtain⟨y0,y1,y2⟩:=a8.out.cells;clear Y F r)|(go_at_call 155;refine(vH c7.out c0.out (η b5.out) f1.out).mono ?_;rintro e w3 ⟨O3,rfl,U,I,z⟩;have c9:Hid (Sv lo sp ((f X).2.beh (f X).1 (f X).1) (n'+k) (N'+4096*c+4096) w3 O3):=U;have c8:Hid (Pv lo w3 O3 (n'+k) k (.slice a3 n3 c3) (.slice a4 n4 c4) (f X).1.may):=I.may;have d1:Hid (Bx w3 O3 B false (.slice none 0 0) (.slice none 0 0)):=d6.out.frame z;have S:Hid (Bx w3 O3 D P.em (.slice a1 n1 c1) (.slice a2 n2 c2)):=a8.out.frame z;have j1:Hid (Pv lo w3 O3 (n'+k) m (.slice a1 n1 c1) (.slice a2 n2 c2) P):=d2.out.frame z;have d8:Hid (Fx lo w w3 O O3):=d7.out.trans z;obtain⟨y0,y1,y2⟩:=S.out.cells;clear U I z)|(go_at_call 89;refine(kP c9.out j1.out c8.out (η b5.out) a9.out).mono ?_;rintro e w4 ⟨O4,f4,l4,rfl,d3,b0,b1⟩;obtain⟨a5,n5,c5,a6,n6,c6,rfl,rfl⟩:=b0.shape;have g5:Hid (Sv lo sp (((f X).2.beh (f X).1 (f X).1).beh P (f X).1.may) (n'+k) (N'+4096*c+4096+4096) w4 O4):=d3;have g3:Hid (Pv lo w4 O4 (n'+k) (m+k) (.slice a5 n5 c5) (.slice a6 n6 c6) (cE P (f X).1.may)):=b0;have G:Hid (Bx w4 O4 B false (.slice none 0 0) (.slice none 0 0)):=d1.out.frame b1;have g7:Hid (Fx lo w w4 O O4):=d8.out.trans b1;obtain⟨z0,z1,z2⟩:=G.out.cells;have zz:=G.out.fz;clear d3 b0 b1))
    all_goals
     go_wp2
     change bodyPost _ _ _ _ _ (d_ w4 B (.bool (cE P (f X).1.may).em) (.slice a5 n5 c5) (.slice a6 n6 c6));obtain⟨g0,g1,g2⟩:=(G.out.own (cE P (f X).1.may).em (.slice a5 n5 c5) (.slice a6 n6 c6)).cells;refine Zb (v:=j_ (cE P (f X).1.may).em (.slice a5 n5 c5) (.slice a6 n6 c6)) (by simp[results,results88,go_sem,g0,g1,g2]) rfl ⟨O4,.slice a5 n5 c5,.slice a6 n6 c6,?_,?_,?_,?_⟩
     .rw[b3.out,b2.out];rfl
     .rw[e4.out,b7.out,b3.out,b2.out];have:=g5.out.put G.out.o (.bool (cE P (f X).1.may).em) (.slice a5 n5 c5) (.slice a6 n6 c6);generalize 4096*c+4096=q at this ⊢;exact this
     .rw[e4.out,C.out,b3.out,b2.out];exact g3.out.put G.out.h _ _ _
     .exact g7.out.put HS.out.base (by rw[e3.out];exact zq) _ _ _
   .have k5:¬ mx<0:=ω;have j9:Hid (mx=(j:Int)+b):=g8;clear g8 y b8;have f5:¬(j:Int)<j:=ω;obtain⟨s,f0⟩:∃ s,s=n+k*j:=⟨_,rfl⟩
    obtain⟨N1,h1⟩:∃ N1,N1=N+4096*(j*(c+1)):=⟨_,rfl⟩
    obtain⟨m1,e5⟩:∃ m1,m1=k*j:=⟨_,rfl⟩
    have h4:=MD d0.out;have h3:k*(j+b)=k*j+k*b:=Nat.mul_add k j b;rw[<-h1] at h4;have e7:Hid (N1+4096*(b*(c+1))<=800000000):=h4.1;have g9:Hid (N+4096*(j*(c+1)+(b*(c+1)+1))=N1+4096*(b*(c+1))+4096):=h4.2.2;have e9:Hid (s+k*b<=64):=by show _<=_;have:=J.out;omega
    have e6:Hid (m1+k*b<=64):=by show _<=_;have:=J.out;omega
    have i5:Hid (n+k*(j+b)=s+k*b):=by show _=_;omega
    have k0:Hid (k*(j+b)=m1+k*b):=by show _=_;omega
    rw[<-f0,<-h1,<-e5] at HI;obtain⟨P1,g6⟩:∃ P1,P1=(bX f j cU x).1:=⟨_,rfl⟩
    obtain⟨X1,f6⟩:∃ X1,X1=(bX f j cU x).2:=⟨_,rfl⟩
    rw[<-g6,<-f6] at HI;have b3:Hid ((bX f j cU x).1=P1):=g6.symm;have b2:Hid ((bX f j cU x).2=X1):=f6.symm;clear h4 h3 h1 f0 e5 g6 f6
    go_upto_region 22 with(fail)
    obtain⟨W4,E,⟨h6,hE⟩,b9,-,g9,-⟩:=dR HI.out.s true (.slice none 0 0) (.slice none 0 0);rw[<-h6,<-hE];have f8:Hid (LV lo sp w O B D E X1 s N1 0 cU s m1 (.slice a1 n1 c1) (.slice a2 n2 c2) P1 W4 O' (.slice none 0 0) (.slice none 0 0)):=⟨HI.out.s.below b9,Pv.nil _ _ _ _ _ _,HI.out.v.below b9,HI.out.f.low HI.out.s.base b9,HI.out.b.below b9,HI.out.d.below b9,g9⟩
    have d9:Hid (D<E):=by show _<_;rw[hE];exact HI.out.d.lt
    obtain⟨F1,b6⟩:∃ F1,F1=Value.slice a1 n1 c1:=⟨_,rfl⟩
    obtain⟨L1,b4⟩:∃ L1,L1=Value.slice a2 n2 c2:=⟨_,rfl⟩
    have j7:Hid (F1=Value.slice a1 n1 c1/\L1=Value.slice a2 n2 c2):=⟨b6,b4⟩
    rw[<-b6,<-b4] at f8;have k3:Hid (Tk lo W4 g mn mx 123 M cap g'):=HT.out.low f8.out.f.bl;clear u0 u1 u2 u3 u4 h6 hE b9 HI i6 b6 b4;obtain⟨u0,u1,u2,u3,u4⟩:=k3.out.facts;rw[e1] at u1
    rename World=>wo
    go_wp2
    clear u0 u1 u2 u3 u4
    go_loopw [12] (λi wq=>∃(t:Nat) (O':Nat->Prop) (f' l':Value),i=.int .i64 ((j:Int)+t)/\t<=b/\LV lo sp w O B D E (bY f t cU X1).2 (s+k*t) (N1+4096*(t*(c+1))) (k*t) (bY f t cU X1).1 s m1 F1 L1 P1 wq O' f' l') (λi _=>j+b-(intOf i).toNat)
    case atStart=>exact⟨0,_,_,_,χ,Zk _,by simpa only [bY,Nat.mul_zero,Nat.zero_mul,Nat.add_zero] using f8.out⟩
    case round=>
     obtain⟨t,O5,f',l',rfl,ht,hJ⟩:=hrel;obtain⟨a1,n1,c1,a2,n2,c2,rfl,rfl⟩:=hJ.v.shape;have j5:Hid (Tk lo wr g mn mx 123 M cap g'):=HT.out.low hJ.f.bl;obtain⟨u0,u1,u2,u3,u4⟩:=j5.out.facts;rw[e1] at u1;rw[j9.out] at u2;have HJ:Hid (LV lo sp w O B D E (bY f t cU X1).2 (s+k*t) (N1+4096*(t*(c+1))) (k*t) (bY f t cU X1).1 s m1 F1 L1 P1 wr O5 (.slice a1 n1 c1) (.slice a2 n2 c2)):=hJ;have A:=hJ.below (gn wr);have A:Hid (LV lo sp w O B D E (bY f t cU X1).2 (s+k*t) (N1+4096*(t*(c+1))) (k*t) (bY f t cU X1).1 s m1 F1 L1 P1 wr.drew O5 (.slice a1 n1 c1) (.slice a2 n2 c2)):=A;have b8:Hid (Q wr.drew):=HQ.out _ _ i4.out A.out.f.bl;clear hJ
     by_cases hlt:t<b
     .have h5:(j:Int)+t<(j:Int)+b:=ω;have T:=rv f t cU X1;have f9:k*(t+1)<=k*b:=mul_le_mul_left k ω;have L:=MC hlt e7.out;have Z:k*(t+1)=k*t+k:=mul_succ k t;obtain⟨n',a7⟩:∃ n',n'=s+k*t:=⟨_,rfl⟩
      obtain⟨N',H⟩:∃ N',N'=N1+4096*(t*(c+1)):=⟨_,rfl⟩
      obtain⟨m,hm⟩:∃ m,m=k*t:=⟨_,rfl⟩
      have d4:Hid (n'+k<=64):=by show _<=_;have:=e9.out;omega
      rw[<-H] at L;have a9:Hid (N'+4096*c<=800000000):=L.1;have b5:Hid (k+m<=64):=by show _<=_;have:=e9.out;omega
      have h2:Hid (s+k*(t+1)=n'+k):=by show _=_;omega
      have k1:Hid (N1+4096*((t+1)*(c+1))=N'+4096*c+4096):=L.2.2;have j6:Hid (k*(t+1)=k+m):=by show _=_;omega
      rw[<-a7,<-H,<-hm] at HJ A;obtain⟨P,hP⟩:∃ P,P=(bY f t cU X1).1:=⟨_,rfl⟩
      obtain⟨X,hX⟩:∃ X,X=(bY f t cU X1).2:=⟨_,rfl⟩
      rw[<-hP,<-hX] at HJ A T;have T:Hid (bY f (t+1) cU X1=_):=T;clear a7 H hm hP hX f9 L Z;obtain⟨y0,y1,y2⟩:=HJ.out.e.cells
      go_upto_region 25 with(fail)
      clear u0 u1 u2 u3 u4
      go_region_with (first|(go_at_call 47;refine(HK.out wr.drew sp _ _ _ _ A.out.s b8.out d4.out a9.out).mono ?_;rintro e w2 ⟨O2,f2,l2,rfl,Y,F,r⟩;obtain⟨a3,n3,c3,a4,n4,c4,rfl,rfl⟩:=F.shape;have c7:Hid (Sv lo sp (f X).2 (n'+k) (N'+4096*c) w2 O2):=Y;have c0:Hid (Pv lo w2 O2 (n'+k) k (.slice a3 n3 c3) (.slice a4 n4 c4) (f X).1):=F;have d6:Hid (Bx w2 O2 B false (.slice none 0 0) (.slice none 0 0)):=A.out.b.frame r;have a8:Hid (Bx w2 O2 D P1.em F1 L1):=A.out.d.frame r;have b7:Hid (Bx w2 O2 E P.em (.slice a1 n1 c1) (.slice a2 n2 c2)):=A.out.e.frame r;have d2:Hid (Pv lo w2 O2 (n'+k) m (.slice a1 n1 c1) (.slice a2 n2 c2) P):=(A.out.v.frame r).mono (le_add_right _ _) zq;have h7:Hid (Pv lo w2 O2 s m1 F1 L1 P1):=A.out.v1.frame r;have d7:Hid (Fx lo w w2 O O2):=A.out.f.trans r;obtain⟨y0,y1,y2⟩:=b7.out.cells;clear Y F r)|(go_at_call 89;refine(kP c7.out c0.out d2.out b5.out a9.out).mono ?_;rintro e w3 ⟨O3,f3,l3,rfl,U,I,z⟩;obtain⟨a5,n5,c5,a6,n6,c6,rfl,rfl⟩:=I.shape;have c9:Hid (Sv lo sp ((f X).2.beh (f X).1 P) (n'+k) (N'+4096*c+4096) w3 O3):=U;have c8:Hid (Pv lo w3 O3 (n'+k) (k+m) (.slice a5 n5 c5) (.slice a6 n6 c6) (cE (f X).1 P)):=I;have d1:Hid (Bx w3 O3 B false (.slice none 0 0) (.slice none 0 0)):=d6.out.frame z;have S:Hid (Bx w3 O3 D P1.em F1 L1):=a8.out.frame z;have C:Hid (Bx w3 O3 E P.em (.slice a1 n1 c1) (.slice a2 n2 c2)):=b7.out.frame z;have i8:Hid (Pv lo w3 O3 s m1 F1 L1 P1):=h7.out.frame z;have d8:Hid (Fx lo w w3 O O3):=d7.out.trans z;obtain⟨y0,y1,y2⟩:=C.out.cells;have yz:=C.out.fz;clear U I z))
      all_goals
       go_wp2
       go_roundw
       .have j0:B≠E:=ne_of_lt (Nat.lt_trans e0.out d9.out);have i0:w.heap.size<=E:=by rw[<-e3.out];exact Nat.le_of_lt (Nat.lt_trans e0.out d9.out)
        refine⟨t+1,O3,.slice a5 n5 c5,.slice a6 n6 c6,by first|(go_num;done)|(simp;omega),ω,?_⟩;rw[T.out,h2.out,k1.out,j6.out];have d5:=C.out.own (cE (f X).1 P).em (.slice a5 n5 c5) (.slice a6 n6 c6);exact⟨(c9.out.put C.out.o _ _ _).set C.out.o _ _,(c8.out.may.put C.out.h _ _ _).set d5.h _ _,(i8.out.put C.out.h _ _ _).set d5.h _ _,(d8.out.put HS.out.base i0 _ _ _).set HS.out.base i0 _ _,(d1.out.put j0 _ _ _).set j0 _ _,(S.out.put (ne_of_lt d9.out) _ _ _).set (ne_of_lt d9.out) _ _,d5.may⟩
       .simp[intOf]<;>omega
     .obtain rfl:t=b:=ω;have h5:¬(j:Int)+t<(j:Int)+t:=ω;obtain⟨b6,b4⟩:=j7.out;rw[b6,b4] at HJ;clear A b8 b6 b4;have e5:m1+k*t<=64:=e6.out;obtain⟨P,hP⟩:∃ P,P=(bY f t cU X1).1:=⟨_,rfl⟩
      obtain⟨X,hX⟩:∃ X,X=(bY f t cU X1).2:=⟨_,rfl⟩
      rw[<-hP,<-hX] at HJ;have g4:Hid ((bY f t cU X1).1=P):=hP.symm;have j8:Hid ((bY f t cU X1).2=X):=hX.symm;clear hP hX;obtain⟨y0,y1,y2⟩:=HJ.out.e.cells;obtain⟨z0,z1,z2⟩:=HJ.out.d.cells;clear e5
      go_upto_region 27 with(fail)
      clear u0 u1 u2 u3 u4;go_wp2_with (go_at_call 89;go_loud (refine(kP HJ.out.s (HJ.out.v1.mono (le_add_right _ _) zq) HJ.out.v e6.out e7.out).mono ?_;rintro e w4 ⟨O4,f4,l4,rfl,d3,b0,b1⟩;obtain⟨a5,n5,c5,a6,n6,c6,rfl,rfl⟩:=b0.shape;have g5:Hid (Sv lo sp (X.beh P1 P) (s+k*t) (N1+4096*(t*(c+1))+4096) w4 O4):=d3;have g3:Hid (Pv lo w4 O4 (s+k*t) (m1+k*t) (.slice a5 n5 c5) (.slice a6 n6 c6) (cE P1 P)):=b0;have G:Hid (Bx w4 O4 B false (.slice none 0 0) (.slice none 0 0)):=HJ.out.b.frame b1;have g7:Hid (Fx lo w w4 O O4):=HJ.out.f.trans b1;obtain⟨q0,q1,q2⟩:=G.out.cells;have qz:=G.out.fz;clear d3 b0 b1))
      change bodyPost _ _ _ _ _ (d_ w4 B (.bool (cE P1 P).em) (.slice a5 n5 c5) (.slice a6 n6 c6));obtain⟨g0,g1,g2⟩:=(G.out.own (cE P1 P).em (.slice a5 n5 c5) (.slice a6 n6 c6)).cells;refine Zb (v:=j_ (cE P1 P).em (.slice a5 n5 c5) (.slice a6 n6 c6)) (by simp[results,results88,go_sem,g0,g1,g2]) rfl ⟨O4,.slice a5 n5 c5,.slice a6 n6 c6,?_,?_,?_,?_⟩
      .rw[b3.out,b2.out,g4.out]
      .rw[i5.out,g9.out,b3.out,b2.out,g4.out,j8.out];exact g5.out.put G.out.o _ _ _
      .rw[i5.out,k0.out,b3.out,b2.out,g4.out];exact g3.out.put G.out.h _ _ _
      .exact g7.out.put HS.out.base (by rw[e3.out];exact zq) _ _ _
def Gx {l:List Nat} (h:IL lo w v l):∃ A ca,v=.slice A l.length ca:=by
 rcases h.o.2 with⟨h1,h2⟩|⟨g,cap,d,hv,_⟩
 .exact⟨none,0,by rw[h1,h2]⟩
 .exact⟨_,_,hv⟩
def Gy {l:List Nat} (h:IL lo w v l) (hl:l.length<=1000000) (n:Nat) :
  Calls prog 159 #[v,.int .i64 n] w λe w'=>e=.returned (.bool (l.contains n))/\w'=w:=by
 obtain⟨A,ca,hf⟩:=Gx h;have HA:=zh h;obtain⟨m,hm⟩:=zx l.length;have HM:=zh hm;have HV:=zh hf;rw[hf,<-hm];rw[<-hm] at hl
 go_enter func159,ntmps159
 go_wp2
 go_loopw [4,5] (λu i wr=>∃ j:Nat,i=.int .i64 j/\j<=m/\wr=w/\∀(k:Nat) (hk:k<l.length),k<j->l[k]≠n) (λ_ i _=>m-(intOf i).toNat)
 case atStart=>exact⟨0,rfl,Zk _,rfl,λk _ h=>ω⟩
 case round=>
  obtain⟨j,rfl,hj,rfl,s⟩:=hrel;have t:=zh s
  by_cases hlt:j<m
  .have z:(j:Int)<m:=ω;have d:j<l.length:=by have:=HM;omega
   obtain⟨ga,F,y,-,-,-,C⟩:=HA.form (λe=>by rw[e] at d;simp at d);rw[HV.out] at y;injection y with e1 e2 e3;subst e1;have d1:wr.cell? ⟨ga,j,none⟩=some (.int .i64 (l[j]:Nat)):=C j d;obtain⟨q,hq⟩:=zx (l[j]);have HQ:Hid (q=l[j]):=hq;rw[<-hq] at d1;clear C e2 e3 hq
   by_cases hqn:q=n
   .subst hqn;have E:((q:Int)==q)=true:=χ;go_wp2
    go_ret
    refine⟨?_,rfl⟩;have r:decide (q∈l)=true:=by rw[decide_eq_true_iff,HQ.out];exact Zg d
    first|(rw[r];rfl)|(rw[show l.contains q=true by simpa using r];rfl)
   .have E:((q:Int)==n)=false:=σ;go_wp2
    go_roundw
    case rel=>exact⟨j+1,π,ω,by trivial,λk hk h=>by
     by_cases e:k=j
     .subst e;rw[<-HQ.out];exact hqn
     .exact t k hk ω⟩
    case measure=>simp[intOf]<;>omega
  .have z:¬(j:Int)<m:=ω;have s:l.contains n=false:=by
    cases hc:l.contains n with
    |false=>rfl
    |true=>
     exfalso
     simp at hc;obtain⟨k,hk,e⟩:=mem_iff_getElem.1 hc;exact t k hk (η HM) e
   go_wp2
   go_ret
   exact⟨by rw[show decide (n∈l)=false by simpa using s];rfl,by first|rfl|trivial⟩
def ud {l:List Nat} (h:IL lo w v l) (hl:l.length<=900000000) {q n c:Nat} (hq:Nw w q n (λx=>.bool (P x))) (hn:n<=1000000) (hvq:v.ownBlock≠some q) (hb:∀ i∈l,i<n) :
  Calls prog 157 #[.slice (some ⟨q,0,none⟩) n c,v] w λe w'=>e=.returned (.tuple #[])/\Nw w' q n (λx=>.bool (P x||l.contains x))/\w.grownBy w' (some q):=by
 obtain⟨A,ca,hf⟩:=Gx h;have HA:Hid (IL lo w v l/\v.ownBlock≠some q):=⟨h,hvq⟩
 have HQ:=zh hq;have F:=zh hb;obtain⟨m,hm⟩:=zx l.length;have HM:=zh hm;have HV:=zh hf;rw[hf,<-hm];rw[<-hm] at hl
 go_enter func157,ntmps157
 go_wp2
 go_loopw [4] (λi wr=>∃ j:Nat,i=.int .i64 j/\j<=m/\Nw wr q n (λx=>.bool (P x||(l.take j).contains x))/\w.grownBy wr (some q)) (λi _=>m-(intOf i).toNat)
 case atStart=>exact⟨0,rfl,Zk _,HQ.congr (λx _=>χ),(⟨rfl,rfl,rfl,zq,λ_ _ _=>rfl⟩:w.grownBy w (some q))⟩
 case round=>
  obtain⟨j,rfl,hj,r,s⟩:=hrel;have HN:=zh r;have HG:=zh s
  by_cases hlt:j<m
  .have C:(j:Int)<m:=ω;have d:j<l.length:=by have:=HM;omega
   have y:=HA.1.keep (λb e=>s.block b (HA.1.lt e).2 (λe2=>HA.2 (by rw[e,e2])));obtain⟨ga,G,z,-,-,-,E⟩:=y.form (λe=>by rw[e] at d;simp at d);rw[HV.out] at z;injection z with e1 e2 e3;subst e1;have d1:wr.cell? ⟨ga,j,none⟩=some (.int .i64 (l[j]:Nat)):=E j d;have t:=F l[j] (Zg d);have d2:=r.c l[j] t;have d3:=r.fz;obtain⟨u,hu⟩:=zx (l[j]);have HU:Hid (u=l[j]):=hu;rw[<-hu] at d1 d2 t;clear E e2 e3 hu r s y;go_wp2
   go_roundw
   case rel=>
    refine⟨j+1,π,ω,(HN.set u t (.bool true)).congr (λx hx=>?_),?_⟩
    .rw[Zl d,<-HU.out]
     by_cases e:x=u
     .subst e;simp
     .rw[Zh e];simp[e]
    .exact⟨HG.os,HG.tape,HG.output,by rw[cQ];exact HG.size,λk hk hne=>(ah _ _ _ _ (λe=>hne (by rw[e]))).trans (HG.block k hk hne)⟩
   case measure=>simp[intOf]<;>omega
  .have C:¬(j:Int)<m:=ω;have HE:Hid (Nw wr q n (λx=>.bool (P x||l.contains x))):=by
    have:=HN
    rwa [show l.take j=l from take_of_length_le (η HM.out)] at this
   go_wp2
   refine bodyPost_end (results_none rfl _ _ _) rfl ?_;exact⟨rfl,HE.congr (λx _=>χ),HG⟩
def Gz:(prog.info? 5).map (λi=>(i.zero,i.size,i.bytes))=some (some (.int .u8 0),1,1):=κ
def GA (b:Bool):UInt8:=if b then 49 else 48
variable (n P) in
theorem IZ (x:Bool) (k:Nat) (hk:k<(si n P x).length):(si n P x)[k]=if k<n then GA (P k) else GA x:=by
 have h1:=hk;rw[jB] at h1;have h2:=getD_at hk 0;rw[<-h2]
 by_cases c:k<n
 .rw[zU _ _ _ c,Zi c];rfl
 .have:k=n:=ω;subst this;rw[vt];simp[GA]
def B4 {G n:Nat}{x:Bool} (h:Nw W G (n+1) (λk=>.int .u8 (if k<n then((GA (P k)).toNat:Int) else((GA x).toNat:Int)))):(convert 73 9 (.slice (some ⟨G,0,none⟩) (n+1) (n+1))).run prog W=.ok (.string (ba (si n P x))) W:=by
 have:=run_convert_bytes_back (P:=prog) W 73 9 5 ⟨G,0,none⟩ (n+1) (si n P x) underlying73 mV pC (λj hj=>by
  have h1:=hj;rw[jB] at h1;have h2:=h.c j h1;have ha:(⟨G,0,none⟩:Addr).add j=⟨G,j,none⟩:=by unfold Addr.add;split<;>simp_all
  rw[ha,h2,IZ]
  by_cases c:j<n
  .rw[Zi c,Zi c]
  .rw[Zh c,Zh c])
 rw[jB] at this;exact this
def ry {q n c:Nat} (hq:Nw w q n (λx=>.bool (P x))) (hn:n<=1000) (hql:q<w.heap.size) (x:Bool) :
  Calls prog 158 #[.slice (some ⟨q,0,none⟩) n c,.bool x] w λe w'=>e=.returned (.string (ba (si n P x)))/\Below w.heap.size w w':=by
 obtain⟨iB,J,E,t,y⟩:=info_parts Gz;have I:=λw0=>dv underlying73 J E t y (n+1) ω Zs w0
 simp only[show((n+1:Nat):Int)=(n:Int)+1 from rfl] at I;have HQ:=zh hq;clear hq
 go_enter func158,ntmps158
 go_upto_region 2 with(fail)
 obtain⟨G,hG⟩:=zx w.heap.size;obtain⟨W1,r⟩:=zx (w.alloc (.cells (jp (n+1) (.int .u8 0)) 5));have s:=zh hG
 have F:Hid (Nw W1 G (n+1) (λk=>.int .u8 (if k<0 then((GA (P k)).toNat:Int) else 0))/\Below w.heap.size w W1):=⟨by
  rw[r,hG]
  exact(Nw.new w (n+1) (.int .u8 0) rfl 5).congr (λk _=>χ),by rw[r];exact ZA⟩
 have K:q≠G:=ω;have T:=Ne.symm K;rw[<-r,<-hG];clear r hG I J E t y;go_wp2
 go_loopw [6] (λi wr=>∃ j:Nat,i=.int .i64 j/\j<=n/\Nw wr G (n+1) (λk=>.int .u8 (if k<j then((GA (P k)).toNat:Int) else 0))/\Below w.heap.size w wr) (λi _=>n-(intOf i).toNat)
 case atStart=>exact⟨0,rfl,Zk _,F.1,F.2⟩
 case round=>
  obtain⟨j,rfl,hj,d,h⟩:=hrel;have HN:=zh d;have HB:=zh h
  by_cases hlt:j<n
  .have H:(j:Int)<n:=ω;have d1:=d.c j ω;rw[Zh ω] at d1;have d2:=d.fz;have d3:=(h.cell (p:=⟨q,j,none⟩) hql).trans (HQ.c j hlt);have A:Hid (∀ W,W.heap=(wr.setCell ⟨G,j,none⟩ (.int .u8 ((GA (P j)).toNat:Int))).heap->Nw W G (n+1) (λk=>.int .u8 (if k<j+1 then((GA (P k)).toNat:Int) else 0))):=λW e=>by
    refine((d.set j ω (.int .u8 ((GA (P j)).toNat:Int))).congr (λk hk=>?_)).of_block (by rw[e])
    by_cases c1:k=j
    .subst c1;simp
    .rw[Zh c1]
     by_cases c2:k<j
     .rw[Zi c2,Zi ω]
     .rw[Zh c2,Zh ω]
   have C:Hid (P j=true->Nw ((wr.setCell ⟨G,j,none⟩ (.int .u8 48)).setCell ⟨G,j,none⟩ (.int .u8 49)) G (n+1) (λk=>.int .u8 (if k<j+1 then((GA (P k)).toNat:Int) else 0))):=λhP=>by
    refine((d.set j ω (.int .u8 48)).set j ω (.int .u8 49)).congr (λk hk=>?_)
    by_cases c1:k=j
    .subst c1;rw[Zi rfl,Zi ω,hP];rfl
    .rw[Zh c1,Zh c1]
     by_cases c2:k<j
     .rw[Zi c2,Zi ω]
     .rw[Zh c2,Zh ω]
   clear d h
   cases hP:P j with
   |false=>
    rw[hP] at d3 A;go_wp2
    go_roundw
    case rel=>exact⟨j+1,π,ω,A _ rfl,HB.setCell (p:=⟨G,j,none⟩) (by show w.heap.size<=G;have:=s.out;omega) _⟩
    case measure=>simp[intOf]<;>omega
   |true=>
    rw[hP] at d3 A;go_wp2
    go_roundw
    case rel=>exact⟨j+1,π,ω,C hP,(HB.setCell (p:=⟨G,j,none⟩) (by show w.heap.size<=G;have:=s.out;omega) _).setCell (p:=⟨G,j,none⟩) (by show w.heap.size<=G;have:=s.out;omega) _⟩
    case measure=>simp[intOf]<;>omega
  .have H:¬(j:Int)<n:=ω;obtain rfl:j=n:=ω;have d1:=d.c j ω;rw[Zh ω] at d1;have d2:=d.fz;have z:w.heap.size<=G:=by have:=s.out;omega
   obtain⟨S,hS⟩:=zx (ba (si j P x));have HS:=zh hS
   cases x with
   |false=>
    have L:(convert 73 9 (.slice (some ⟨G,0,none⟩) (j+1) (j+1))).run prog (wr.setCell ⟨G,j,none⟩ (.int .u8 48))=.ok (.string S) (wr.setCell ⟨G,j,none⟩ (.int .u8 48)):=by
     rw[hS];refine B4 ((d.set j ω (.int .u8 48)).congr (λk hk=>?_))
     by_cases c1:k=j
     .subst c1;rw[Zi rfl,Zh ω];rfl
     .rw[Zh c1,Zi ω,Zi ω]
    clear d h hS;go_wp2
    go_ret
    exact⟨by rw[<-HS.out];rfl,HB.setCell (p:=⟨G,j,none⟩) z _⟩
   |true=>
    have L:(convert 73 9 (.slice (some ⟨G,0,none⟩) (j+1) (j+1))).run prog ((wr.setCell ⟨G,j,none⟩ (.int .u8 48)).setCell ⟨G,j,none⟩ (.int .u8 49))=.ok (.string S) ((wr.setCell ⟨G,j,none⟩ (.int .u8 48)).setCell ⟨G,j,none⟩ (.int .u8 49)):=by
     rw[hS];refine B4 (((d.set j ω (.int .u8 48)).set j ω (.int .u8 49)).congr (λk hk=>?_))
     by_cases c1:k=j
     .subst c1;rw[Zi rfl,Zh ω];rfl
     .rw[Zh c1,Zh c1,Zi ω,Zi ω]
    clear d h hS;go_wp2
    go_ret
    exact⟨by rw[<-HS.out];rfl,(HB.setCell (p:=⟨G,j,none⟩) z _).setCell (p:=⟨G,j,none⟩) z _⟩
structure Kn (lo:Nat) (w:World) (g:Nat) (K:Int) (n M cap:Nat) (gs:Nat->Nat):Prop where
 t:∃ B mn mx sg,Tr w g K B (.slice (some ⟨M,0,none⟩) n cap) mn mx sg
 k:∀ j,j<n->w.cell? ⟨M,j,none⟩=some (.pointer (some ⟨gs j,0,none⟩))
 lg:g<lo
 lM:M<lo
 lc:n<=cap
def Kn.low {K:Int}{gs:Nat->Nat} (h:Kn lo w g K n M cap gs) (b:Below lo w w'):Kn lo w' g K n M cap gs:=by
 obtain⟨⟨B,mn,mx,sg,t⟩,k,lg,lM,lc⟩:=h;exact⟨⟨B,mn,mx,sg,t.of_heap (b.block g lg)⟩,λj hj=>(b.cell (p:=⟨M,j,none⟩) lM).trans (k j hj),lg,lM,lc⟩
def Kn.facts {K:Int}{gs:Nat->Nat} (h:Kn lo w g K n M cap gs):w.cell? ⟨g,0,none⟩=some (.int .i64 K)/\w.cell? ⟨g,257,none⟩=some (.slice (some ⟨M,0,none⟩) n cap):=by
 obtain⟨⟨B,mn,mx,sg,t⟩,k,lg,lM,lc⟩:=h;exact⟨t.c0,t.ck⟩
abbrev JT (lo g R:Nat) (w:World):Prop:=∀ w',Below lo w w'->Calls prog 46 #[.pointer (some ⟨g,0,none⟩)] w' λe w''=>e=.returned (.int .i64 (R:Nat))/\Below w'.heap.size w' w''
def AG (hS:Sv lo sp x n N w O) (hsp:JT lo g 0 w) :
  Calls prog 47 #[.pointer (some ⟨sp,0,none⟩),.pointer (some ⟨g,0,none⟩)] w λe w'=>∃ O' f' l',e=.returned (j_ true f' l')/\Sv lo sp x n N w' O'/\Pv lo w' O' n 0 f' l' cU/\Fx lo w w' O O':=by
 have HS:=zh hS;have t:=zh hsp
 go_enter func47,ntmps47
 go_upto_region 1 with(fail)
 obtain⟨W1,B,⟨i,hB⟩,E,j,A,C,z,s⟩:=dR HS false (.slice none 0 0) (.slice none 0 0);rw[<-i,<-hB];clear i hB
 go_upto_region 2 with(go_at_call 46;refine(t W1 z).mono ?_;rintro e w2 ⟨rfl,h⟩;have F:=zh h;have r:=zh (j.below h);have d:=zh (A.below h);have y:=zh (C.low j.base h))
 obtain⟨x0,x1,x2⟩:=d.cells;have xz:=d.fz;go_wp2
 (change bodyPost _ _ _ _ _ (d_ w2 B (.bool true) (.slice none 0 0) (.slice none 0 0));obtain⟨g0,g1,g2⟩:=(d.own true (.slice none 0 0) (.slice none 0 0)).cells;refine Zb (v:=j_ true (.slice none 0 0) (.slice none 0 0)) (by simp[results,results47,go_sem,g0,g1,g2]) rfl ?_)
 exact⟨O,_,_,rfl,r.put d.o _ _ _,Pv.nil _ _ _ _ _ _,y.put HS.base (by rw[s.out];exact zq) _ _ _⟩
def DM {F:Rp×Rx}{n1 N1 m1:Nat} (hS:Sv lo sp x n N w O) (hR:R≠0) (hsp:JT lo g R w) (hK:∀ w',Below lo w w'->w'.cell? ⟨g,0,none⟩=some (.int .i64 3))
  (hrep:∀ w',Below lo w w'->Sv lo sp x n N w' O->Calls prog 88 #[.pointer (some ⟨sp,0,none⟩),.pointer (some ⟨g,0,none⟩)] w' λe w2=>∃ O' f' l',e=.returned (j_ F.1.em f' l')/\Sv lo sp F.2 n1 N1 w2 O'/\Pv lo w2 O' n1 m1 f' l' F.1/\Fx lo w' w2 O O') :
  Calls prog 47 #[.pointer (some ⟨sp,0,none⟩),.pointer (some ⟨g,0,none⟩)] w λe w'=>∃ O' f' l',e=.returned (j_ F.1.em f' l')/\Sv lo sp F.2 n1 N1 w' O'/\Pv lo w' O' n1 m1 f' l' F.1/\Fx lo w w' O O':=by
 have HS:=zh hS;have J:=zh hsp;have HK:=zh hK;have C:=zh hrep;have Y:¬(R:Int)=0:=ω
 go_enter func47,ntmps47
 go_upto_region 1 with(fail)
 obtain⟨W1,B,⟨s,hB⟩,Z,y,U,T,S,I⟩:=dR HS false (.slice none 0 0) (.slice none 0 0);rw[<-s,<-hB];clear s hB
 go_upto_region 2 with(go_at_call 46;refine(J W1 S).mono ?_;rintro e w2 ⟨rfl,h⟩;have a3:=zh h;have G:=zh (y.below h);have E:=zh (U.below h);have j:=zh (T.low y.base h))
 have u0:=HK w2 j.bl
 go_upto_region 11 with(fail)
 go_wp2_with (go_at_call 88;refine(C w2 j.bl G).mono ?_;rintro e w3 ⟨O3,f3,l3,rfl,A,z,t⟩;obtain⟨a1,r,c1,a2,i,c2,rfl,rfl⟩:=z.shape;have K:=zh A;have H:=zh z;have d:=zh (E.frame t);have L:=zh (j.trans t);obtain⟨x0,x1,x2⟩:=d.cells;have xz:=d.fz)
 (change bodyPost _ _ _ _ _ (d_ w3 B (.bool F.1.em) (.slice a1 r c1) (.slice a2 i c2));obtain⟨g0,g1,g2⟩:=(d.own F.1.em (.slice a1 r c1) (.slice a2 i c2)).cells;refine Zb (v:=j_ F.1.em (.slice a1 r c1) (.slice a2 i c2)) (by simp[results,results47,go_sem,g0,g1,g2]) rfl ?_)
 exact⟨O3,_,_,rfl,K.put d.o _ _ _,H.put d.h _ _ _,L.put HS.base (by rw[I.out];exact zq) _ _ _⟩
end Go.Proofs.YtbjabpodkaokjaaGreatDoor
