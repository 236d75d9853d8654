import Derived.Test.YtbjabpodkaokjaaGreatDoorCC09
import Derived.Test.YtbjabpodkaokjaaGreatDoorCC11
import Derived.Laws.CopyOwn
set_option linter.all false
set_option maxHeartbeats 4000000
set_option maxRecDepth 100000
open List Nat Go.World Go.Proofs.Tryz
namespace Go.Proofs.YtbjabpodkaokjaaGreatDoor
open Go.RowKit Go.Shelf
variable {n:Nat}{X:World->Prop}{v:Value}{g4 B q:Nat}{ys:List Value}{w':World}{xs:List Value}{c4 lim q0 cap4:Nat}{f:Nat->Value}{lo n':Nat}{xs':List Value}{wr:World}{j:Nat}{ρ':Nat->Nat}{cap:Nat}{zs:List Value}{H:Nat}{vn:Value}{b:Nat}{u:Value}{base size:Nat}{a:List Bool}{k o:Nat}{w:World}{g:Nat}{ρ:Nat->Nat}{N:Int}{vs:Nat->Value}{m:Nat}{t:Tb}{c:Nat}{C:Obj}{va:Value}
attribute [local go_sem] Oper.semAt_some
def Af (n:Nat) (hn:2<=n) (H g:Nat) (t:Tb) (c:Nat) (hok:jf t c) (tx:List UInt8) (htx:tx.length<=maxLen) (w0:World)
  (hau:∀ W',Below H w0 W'->mL W' g t) (hsz:w0.heap.size=H+3)
  (hB1:w0.cell? ⟨H+1,0,none⟩=some (.pointer (some ⟨g,0,none⟩))) (hB2:w0.cell? ⟨H+2,0,none⟩=some (.string (ba tx))) :
  SeqStopsK Fence.wide n prog 171 #[.pointer (some ⟨H+1,0,none⟩),.pointer (some ⟨H+2,0,none⟩)] (λx:Nat=>#[Value.int .i64 (x:Int)]) (Kq H) (λxs=>xs=fW t tx) (λpre=>pre <+: fW t tx) (tx.length+1) w0:=λl J Jx W hW hJ hJx hY h0=>by
 have hs:=hW.size;exact Io n hn l H g t c hok tx htx J Jx W hJ hJx hY (λW' hb=>hau W' ((hW.mono ω).trans hb)) ω ((cell_of_block (hW.block _ ω) 0).trans hB1) ((cell_of_block (hW.block _ ω) 0).trans hB2) h0
def qP (l:List Nat):Int:=match l with|x::_=>x|[]=>-1
def Me (hw:H+3<=w.heap.size) (W:World) (l:Nat) (o o':Obj) (h1:w.heap.size<=l) (h2:W.heap[l]?=some o) (h3:o.isCells=false) (h4:o.isWalk=false):Kq H W (W.putObj l o'):=by
 have hb:=belowK_b hw W l o o' h1 h2 h3 h4;exact⟨hb.mono ω,hb.block _ ω,hb.block _ ω⟩
variable (w g t c) in
def F5 (h:mL w g t) (hok:jf t c) (tx:List UInt8) (htx:tx.length<=maxLen) :
  CallsIn Fence.wide 8 prog 70 #[.pointer (some ⟨g,0,none⟩),.string (ba tx)] w λe w'=>e=.returned (.int .i64 (qP (fW t tx)))/\Below w.heap.size w w':=by
 have HH:=zh h;refine callsIn_of_wp_marks func70 rfl trivial ?_ rfl;simp only[ntmps70,size_toArray,length_cons,length_nil,reduceAdd,reduceSub,Array.replicate_succ,Array.replicate_zero,push_toArray,append_toArray,nil_append,cons_append]
 gi_wp2_with (refine⟨trivial,?_⟩;gi_at_call 120;refine(In _ g (ba tx) _).mono ?_;rintro e w' ⟨rfl,J⟩;subst J)
 obtain⟨w0,i⟩:=zx (((w.alloc (.cells #[.int .i64 0] 3)).alloc (.cells #[.pointer (some ⟨g,0,none⟩)] 92)).alloc (.cells #[.string (ba tx)] 9));have F:Below w.heap.size w w0:=by rw[i];exact(((Below.refl _ w).alloc zq _).alloc χ _).alloc σ _
 have L:w0.heap.size=w.heap.size+3:=by rw[i];simp
 have j0:w0.heap[w.heap.size]?=some (.cells #[.int .i64 0] 3):=by rw[i];exact IG w _ _ _
 have j1:w0.heap[w.heap.size+1]?=some (.cells #[.pointer (some ⟨g,0,none⟩)] 92):=by rw[i];exact KB w _ _ _
 have j2:w0.heap[w.heap.size+2]?=some (.cells #[.string (ba tx)] 9):=by rw[i];exact JM w _ _ _
 have k0:w0.cell? ⟨w.heap.size,0,none⟩=some (.int .i64 0):=by simp[cell?,j0]
 have kf:w0.frozen? ⟨w.heap.size,0,none⟩=false:=by simp[frozen?,j0]
 have k1:w0.cell? ⟨w.heap.size+1,0,none⟩=some (.pointer (some ⟨g,0,none⟩)):=by simp[cell?,j1]
 have k2:w0.cell? ⟨w.heap.size+2,0,none⟩=some (.string (ba tx)):=by simp[cell?,j2]
 rw[<-i];refine wpIn_rangeFunc_ownF (α:=Nat) rfl ω (gf:=171) (lb:=#[.pointer (some ⟨w.heap.size+1,0,none⟩),.pointer (some ⟨w.heap.size+2,0,none⟩)]) rfl trivial (enters_of func171 κ rfl)
  (Af (8-1) ω w.heap.size g t c hok tx htx w0 (λW' hb=>HH.below (F.trans hb)) L k1 k2) (λh k=>h.trans k) (Me ω) ZB (λ_=>rfl)
  (λy W=>(y=[]/\W.cell? ⟨w.heap.size,0,none⟩=some (.int .i64 0)/\W.frozen? ⟨w.heap.size,0,none⟩=false)/\Below w.heap.size w W)
  (λc y W=>(c=.ret/\(∃ x:Nat,y=[x]/\W.cell? ⟨w.heap.size,0,none⟩=some (.int .i64 (x:Int))))/\Below w.heap.size w W)
  (OwnFrom.and (Own.from (λs A B row hs hg hr=>⟨hs.1,cell_kept hs.2.1 hg hr,(frozen_kept hs.2.1 hg hr).trans hs.2.2⟩) _) (ownFrom_below zq ω))
  (λc=>OwnFrom.and (Own.from (λs A B row hs hg hr=>⟨hs.1,let ⟨x,h1,h2⟩:=hs.2;⟨x,h1,cell_kept h2 hg hr⟩⟩) _) (ownFrom_below zq ω))
  ⟨⟨rfl,k0,kf⟩,F⟩
  (λx=>{tmps:=#[.pointer (some ⟨g,0,none⟩),.string (ba tx),undef,undef,.pointer (some ⟨w.heap.size,0,none⟩),.int .i64 (x:Int),.pointer (some ⟨g,0,none⟩),.string (ba tx),.func (.func 171) #[] #[.pointer (some ⟨w.heap.size+1,0,none⟩),.pointer (some ⟨w.heap.size+2,0,none⟩)],.int .i64 (x:Int),undef],defers:=[]}) ?assign ?body ?done ?stop
 case assign=>
  intro l x W K hK
  gi_wp2
  exact hK
 case body=>
  rintro l y x W ⟨⟨hp,hc,hf⟩,hB⟩ _;subst hp
  gi_wp2
  exact⟨KeepsOthers.setCell _ _ _,⟨rfl,x,rfl,cell?_setCell_same' _ _ _ (by rw[hc];rfl)⟩,hB.setCell (p:=⟨w.heap.size,0,none⟩) zq _⟩
 case done=>
  rintro D ys W hD M ⟨⟨hp,hc,hf⟩,hB⟩ hK;have I:fW t tx=[]:=by rw[<-M,hp]
  gi_wp2
  have E:=(KeepsOthers.setCell W ⟨w.heap.size,0,none⟩ (.int .i64 (-1))).same D _ hK rfl;refine⟨χ,.inl ⟨_,_,rfl,run_takeDeferred E,?_⟩⟩;have z:=cell_kept (cell?_setCell_same' W ⟨w.heap.size,0,none⟩ (.int .i64 (-1)) (by rw[hc];rfl)) (grownBy_putObj' _ D (.deferred none)) (λr e=>by cases e;exact⟨_,E,rfl⟩);refine⟨.int .i64 (-1),?_,by rw[I];rfl,(hB.setCell (p:=⟨w.heap.size,0,none⟩) zq _).trans (belowK_b (w:=w) zq _ D _ _ ω E rfl rfl)⟩;simp[results,f70,go_sem,z]
 case stop=>
  rintro D c y W hD G ⟨⟨rfl,x,rfl,O⟩,hB⟩ hK
  gi_wp2
  refine⟨χ,.inl ⟨_,_,rfl,run_takeDeferred hK,?_⟩⟩;have z:=cell_kept O (grownBy_putObj' _ D (.deferred none)) (λr e=>by cases e;exact⟨_,hK,rfl⟩);refine⟨.int .i64 (x:Int),?_,?_,hB.trans (belowK_b (w:=w) zq W D _ _ ω hK rfl rfl)⟩
  .simp[results,f70,go_sem,z]
  .obtain⟨r,hr⟩:=G;rw[<-hr];rfl
variable (w g t c) in
def Dy (h:mL w g t) (hok:jf t c) (tx:List UInt8) (htx:tx.length<=maxLen) :
  Calls prog 70 #[.pointer (some ⟨g,0,none⟩),.string (ba tx)] w λe w'=>e=.returned (.int .i64 (qP (fW t tx)))/\Below w.heap.size w w':=callsIn_wide.1 (F5 w g t c h hok tx htx)
open Go.RowKit
def Ag (w:World) (m:Nat) (t:Tb) (c:Nat):Prop:=∃ g,w.cell? ⟨m,0,none⟩=some (.pointer (some ⟨g,0,none⟩))/\mL w g t/\jf t c
theorem Ag.below (h:Ag w m t c) (hb:Below w.heap.size w w'):Ag w' m t c:=by
 obtain⟨g,h1,h2,h3⟩:=h;exact⟨g,cell_below hb h1,h2.below hb,h3⟩
def Dz (l:List Nat):decide (0<=qP l)=!l.isEmpty:=by
 cases l<;>simp[qP]
variable (w m t c) in
def xr (h:Ag w m t c) (tx:List UInt8) (htx:tx.length<=maxLen) :
  Calls prog 39 #[.pointer (some ⟨m,0,none⟩),.string (ba tx)] w λe w'=>e=.returned (.tuple #[.bool (!(fW t tx).isEmpty),.int .i64 0])/\Below w.heap.size w w':=by
 obtain⟨g,h1,h2,h3⟩:=h;have hl:=Dy w g t c h2 h3 tx htx;have hq:=Dz (fW t tx);generalize qP (fW t tx)=z at hl hq;have HQ:=zh hq
 go_enter func39,ntmps39
 go_wp2_with (go_at_call 70;refine hl.mono ?_;rintro e w1 ⟨rfl,hb⟩)
 go_ret2
 rw[<-HQ.out];exact⟨rfl,hb⟩
variable (w m t c) in
def qQ (h:Ag w m t c) :
  Calls prog 16 #[.pointer (some ⟨m,0,none⟩)] w λe w'=>∃ tA tB gs,e=.returned (.tuple #[tv t (.slice (some ⟨tA,0,none⟩) t.acc.length t.acc.length) (.slice (some ⟨tB,0,none⟩) t.next.length t.next.length),.int .i64 0])/\i_ w.heap.size w' t tA tB gs/\Below w.heap.size w w':=by
 obtain⟨g,h1,h2,h3⟩:=h;have hB:Below w.heap.size w (w.alloc (.cells K1 33)):=ZA;have hl:=Dx (w.alloc (.cells K1 33)) g t c (h2.below hB) h3;have l:=cell_below hB h1;have HB:=zh hB;rw[size_alloc] at hl
 go_enter func16,ntmps16
 go_wp2_with (go_at_call 50;refine hl.mono ?_;rintro e w1 ⟨tA,tB,gs,rfl,hn,hb⟩;obtain⟨r0,r1,r2,r3,r4,r5⟩:=dH ((hb.block w.heap.size ω).trans (Za w _));have rf:=JL ((hb.block w.heap.size ω).trans (Za w (.cells K1 33)));have HN:=zh hn;have i:=zh (HB.trans (hb.mono ω)))
 refine Zb (v:=.tuple #[tv t (.slice (some ⟨tA,0,none⟩) t.acc.length t.acc.length) (.slice (some ⟨tB,0,none⟩) t.next.length t.next.length),.int .i64 0]) (by simp[results,results16,go_sem,r0,r1,r2,r3,r4,r5]) rfl ?_;refine⟨tA,tB,gs,rfl,?_,?_⟩
 .exact((((((HN.set ω _ _).set ω _ _).set ω _ _).set ω _ _).set ω _ _).set ω _ _).weak ω
 .exact(Θ i)
def cJ.shapes (h:cJ w t va vn):∃ a c a2 n2 c2,va=.slice a t.acc.length c/\vn=.slice a2 n2 c2:=by
 obtain⟨a,c,rfl⟩:=h.acc.form;obtain⟨us,_,hu,_⟩:=h.next;obtain⟨a2,c2,rfl⟩:=hu.form;exact⟨_,_,_,_,_,rfl,rfl⟩
def pD (h:Below B w w') (n:Nat):Below B w (w'.drewN n):=⟨h.os,h.tape,h.output,h.size,h.block⟩
def F6 (w:World) (va vb:Value) (zs:List Int) (ha:aS eI w va zs) (hb:aS eI w vb zs) (hl:zs.length<=maxLen) :
  Calls prog 52 #[va,vb] w λe w'=>e=.returned (.bool true)/\Below w.heap.size w w':=by
 unfold maxLen at hl;obtain⟨a,c,l⟩:=ha.form;obtain⟨a',c',h⟩:=hb.form;subst l;subst h;obtain⟨n,hn⟩:=zx zs.length;have HN:=zh hn;rw[<-hn] at hl ⊢;have HA:Hid (aS eI w (.slice a n c) zs):=by show aS _ _ _ _;rw[hn];exact ha
 have HB:Hid (aS eI w (.slice a' n c') zs):=by show aS _ _ _ _;rw[hn];exact hb
 go_enter func52,ntmps52
 go_wp2
 go_loopw [5] (λi wr=>∃ k:Nat,i=.int .i64 k/\k<=n/\Below w.heap.size w wr) (λi _=>n-(intOf i).toNat)
 case atStart=>exact⟨0,rfl,Zk _,ZB⟩
 case round=>
  obtain⟨k,rfl,hk,s⟩:=hrel;have y:=zh s
  by_cases hlt:k<n
  .have r:k<zs.length:=by have:=HN;omega
   obtain⟨b,o,q,l,x⟩:=(HA.below s).nonnil ω;injection l with e1 e2 e3;subst e1;obtain⟨b',o',q',h,p⟩:=(HB.below s).nonnil ω;injection h with e1' e2' e3';subst e1';have d1:=x k r;have d2:=p k r;obtain⟨z,hz⟩:=zx (zs[k]);rw[<-hz] at d1 d2;go_wp2
   go_quiet (fail)
   go_wp2
   go_roundw
   case rel=>exact⟨k+1,π,ω,pD y nq⟩
   case measure=>simp[intOf]<;>omega
  .have A:¬(k:Int)<n:=ω;go_wp2
   go_ret
   exact⟨rfl,y⟩
def xt (w:World) (va vb:Value) (zs:List Bool) (ha:aS eB w va zs) (hb:aS eB w vb zs) (hl:zs.length<=maxLen) :
  Calls prog 51 #[va,vb] w λe w'=>e=.returned (.bool true)/\Below w.heap.size w w':=by
 unfold maxLen at hl;obtain⟨a,c,l⟩:=ha.form;obtain⟨a',c',h⟩:=hb.form;subst l;subst h;obtain⟨n,hn⟩:=zx zs.length;have HN:=zh hn;rw[<-hn] at hl ⊢;have HA:Hid (aS eB w (.slice a n c) zs):=by show aS _ _ _ _;rw[hn];exact ha
 have HB:Hid (aS eB w (.slice a' n c') zs):=by show aS _ _ _ _;rw[hn];exact hb
 go_enter func51,ntmps51
 go_wp2
 go_loopw [5] (λi wr=>∃ k:Nat,i=.int .i64 k/\k<=n/\Below w.heap.size w wr) (λi _=>n-(intOf i).toNat)
 case atStart=>exact⟨0,rfl,Zk _,ZB⟩
 case round=>
  obtain⟨k,rfl,hk,r⟩:=hrel;have y:=zh r
  by_cases hlt:k<n
  .have x:k<zs.length:=by have:=HN;omega
   obtain⟨b,o,q,l,s⟩:=(HA.below r).nonnil ω;injection l with e1 e2 e3;subst e1;obtain⟨b',o',q',h,p⟩:=(HB.below r).nonnil ω;injection h with e1' e2' e3';subst e1';have d1:=s k x;have d2:=p k x;obtain⟨z,hz⟩:=zx (zs[k]);rw[<-hz] at d1 d2;clear s p e2 e3 e2' e3' hz r
   cases z
   all_goals
    go_wp2
    go_quiet (fail)
    go_wp2
    go_roundw
    case rel=>exact⟨k+1,π,ω,pD y nq⟩
    case measure=>simp[intOf]<;>omega
  .have A:¬(k:Int)<n:=ω;clear r;go_wp2
   go_ret
   exact⟨rfl,y⟩
def F7 (w:World) (t:Tb) (va vn va' vn':Value) (h:cJ w t va vn) (h':cJ w t va' vn') (hs:qn t) :
  Calls prog 17 #[tv t va vn,tv t va' vn'] w λe w'=>e=.returned (.bool true)/\Below w.heap.size w w':=by
 obtain⟨f,b,st,cls,l,next⟩:=t;obtain⟨ha,⟨us,L,hu,hr⟩⟩:=h;obtain⟨W,⟨M,p,z,Y⟩⟩:=h';obtain⟨s1,s2,s3,s4⟩:=hs
 simp only at *
 obtain⟨a,ca,rfl⟩:=ha.form;obtain⟨a',V,rfl⟩:=W.form;obtain⟨an,cn,rfl⟩:=hu.form;obtain⟨O,J,rfl⟩:=z.form;rw[L] at hu ⊢;rw[p] at z ⊢;obtain⟨n,hn⟩:=zx next.length;rw[<-hn] at hu z L p s2 ⊢;have HN:Hid (n=next.length/\us.length=n/\M.length=n):=⟨hn,L,p⟩
 obtain⟨w1,x⟩:=zx ((w.alloc (.cells #[.bool f,.bool b,.int .i64 st,.string (ba cls),.slice a l.length ca,.slice an n cn] 33)).alloc (.cells #[.bool f,.bool b,.int .i64 st,.string (ba cls),.slice a' l.length V,.slice O n J] 33));have F:Below w.heap.size w w1:=by rw[x];exact ZA.alloc χ _
 have c8:w1.heap.size=w.heap.size+2:=by rw[x];simp
 have a1:Hid (∀ w',Below w1.heap.size w1 w'->w'.heap[w.heap.size]?=some (.cells #[.bool f,.bool b,.int .i64 st,.string (ba cls),.slice a l.length ca,.slice an n cn] 33)):=λw' hb=>by
  rw[hb.block _ ω,x];exact(Ze (w.alloc _) _ _ χ).trans (Za w _)
 have a3:Hid (∀ w',Below w1.heap.size w1 w'->w'.heap[w.heap.size+1]?=some (.cells #[.bool f,.bool b,.int .i64 st,.string (ba cls),.slice a' l.length V,.slice O n J] 33)):=λw' hb=>by
  rw[hb.block _ ω,x];have:=Za (w.alloc (.cells #[.bool f,.bool b,.int .i64 st,.string (ba cls),.slice a l.length ca,.slice an n cn] 33)) (.cells #[.bool f,.bool b,.int .i64 st,.string (ba cls),.slice a' l.length V,.slice O n J] 33);rw[size_alloc] at this;exact this
 have b7:=zh x;have a4:Hid (∀ w',Below w1.heap.size w1 w'->Below w.heap.size w w'):=λw' hb=>F.trans (hb.mono ω)
 have HU:=zh hu;have b0:=zh z;have HR:=zh hr;have a7:=zh Y;have b5:=zh (xt w1 _ _ l (ha.below F) (W.below F) s1);have b3:=zh s3;unfold maxLen at s1 s2;clear x F hu z hr Y ha W L p hn s3;have c0:=ByteArray.toList_mk cls
 go_enter func17,ntmps17
 go_wp2_with (go_at_call 51;rw[<-b7.out];refine b5.mono ?_;rintro e w2 ⟨rfl,I⟩;have b4:=zh I;obtain⟨p0,p1,p2,p3,p4,p5⟩:=dH (a1 w2 I);obtain⟨q0,q1,q2,q3,q4,q5⟩:=dH (a3 w2 I);clear I)
 clear p0 p1 p2 p3 p4 p5 q0 q1 q2 q3 q4 q5
 go_loopw [6,7] (λi _ wr=>∃ k:Nat,i=.int .i64 k/\k<=n/\Below w1.heap.size w1 wr) (λi _ _=>n-(intOf i).toNat)
 case atStart=>exact⟨0,rfl,Zk _,b4⟩
 case round=>
  obtain⟨k,rfl,hk,y⟩:=hrel;have S:=zh y;obtain⟨t0,t1,t2,t3,t4,p5⟩:=dH (a1 wr y);obtain⟨b9,a9,a6,a5,b8,q5⟩:=dH (a3 wr y);clear t0 t1 t2 t3 t4 b9 a9 a6 a5 b8
  by_cases hlt:k<n
  .have c1:(k:Int)<n:=ω;have R:k<us.length:=by have:=HN.out;omega
   have U:k<M.length:=by have:=HN.out;omega
   have G:k<next.length:=by have:=HN.out;omega
   have E:=a4 wr y;obtain⟨b1,o1,x1,P,A⟩:=(HU.below E).nonnil ω;injection P with e1 e2 e3;subst e1;obtain⟨b2,o2,x2,K,s⟩:=(b0.below E).nonnil ω;injection K with e1' e2' e3';subst e1';have d1:=A k R;have d2:=s k U;have r1:=(HR k R G).below E;have r2:=(a7 k U G).below E;have Q:=b3 next[k] (Zg G);obtain⟨u1,a2⟩:=zx (us[k]);obtain⟨u2,Z⟩:=zx (M[k]);obtain⟨r,hr⟩:=zx (next[k]);rw[<-a2] at d1 r1;rw[<-Z] at d2 r2;rw[<-hr] at r1 r2 Q;simp only[id] at d1 d2;have a8:=zh (F6 _ _ _ r (r1.below (ZB.drew)) (r2.below (ZB.drew)) Q);clear A s e2 e3 e2' e3' a2 Z hr y E r1 r2 Q;go_wp2
   clear R U G hk hlt
   go_region_held3 (λw'=>w'.cell? ⟨w.heap.size,5,none⟩=some (.slice (some ⟨b1,o1,none⟩) n cn)/\w'.cell? ⟨w.heap.size+1,5,none⟩=some (.slice (some ⟨b2,o2,none⟩) n J)/\w'.cell? ⟨b1,o1+k,none⟩=some u1/\w'.cell? ⟨b2,o2+k,none⟩=some u2) (go_keep) ((go_at_call 52;refine a8.mono ?_;rintro e w3 ⟨rfl,T⟩;have b6:=zh (S.drew.trans (T.mono S.size));have D:=ZB.drew.trans T;have c7:=cell_below D p5;have c9:=cell_below D q5;have c2:=cell_below D d1;have c3:=cell_below D d2;clear T D))
   go_wp2
   go_roundw
   case rel=>exact⟨k+1,π,ω,b6⟩
   case measure=>simp[intOf]<;>omega
  .have c6:¬(k:Int)<n:=ω;clear y;go_wp2
   go_ret
   exact⟨rfl,a4 _ S⟩
def aS.atq {α:Type}{enc:α->Value}{l:List α} (h:aS enc w (.slice (some ⟨b,o,none⟩) n c) l) (j:Nat) (hj:j<l.length):w.cell? ⟨b,o+j,none⟩=some (enc l[j]):=by
 obtain⟨b',o',c',hf,hc⟩:=h.nonnil ω;injection hf with e1 _ _;injection e1 with e1;injection e1 with e1 e2 e3;subst e1;subst e2;exact hc j hj
structure Bd where
 ls:List Value
 ms:List Int
 bs:List Value
 ws:List Value
 rs:List Value
 os:List Int
structure Bv where
 vI:Value
 vM:Value
 vB:Value
 vW:Value
 vR:Value
 vL:Value
structure Mz (w:World) (g:Nat) (v:Bv) (d:Bd):Prop where
 cI:w.cell? ⟨g,1,none⟩=some v.vI
 cM:w.cell? ⟨g,2,none⟩=some v.vM
 cB:w.cell? ⟨g,3,none⟩=some v.vB
 cW:w.cell? ⟨g,4,none⟩=some v.vW
 cR:w.cell? ⟨g,5,none⟩=some v.vR
 cL:w.cell? ⟨g,6,none⟩=some v.vL
 rI:aS id w v.vI d.ls
 rM:aS eI w v.vM d.ms
 rB:aS id w v.vB d.bs
 rW:aS id w v.vW d.ws
 rR:aS id w v.vR d.rs
 rL:aS eI w v.vL d.os
 lI:d.ms.length=d.ls.length
 lB:d.ws.length=d.bs.length
 lR:d.os.length=d.rs.length
 sI:d.ls.length<9223372036854775807
 sB:d.bs.length<9223372036854775807
 sR:d.rs.length<9223372036854775807
 fI:∀ i (h1:i<d.ls.length) (h2:i<d.ms.length),∃ n,n<9223372036854775807/\aS eI w d.ls[i] (replicate n d.ms[i])
 fB:∀ i (h1:i<d.bs.length) (h2:i<d.ws.length),∃ l:List Bool,l.length<=maxLen/\aS eB w d.bs[i] l/\aS eB w d.ws[i] l
 fR:∀ i (h1:i<d.rs.length) (h2:i<d.os.length),∃ n u,n<9223372036854775807/\aS id w d.rs[i] (replicate n u)/\aS eI w u [d.os[i]]
def DA (w:World) (g:Nat) (v:Bv) (d:Bd) (h:Mz w g v d) :
  Calls prog 19 #[.pointer (some ⟨g,0,none⟩)] w λe w'=>e=.returned (.bool true)/\Below w.heap.size w w':=by
 obtain⟨aI,kI,T⟩:=h.rI.form;obtain⟨aM,kM,eM⟩:=h.rM.form;obtain⟨aB,kB,K⟩:=h.rB.form;obtain⟨aW,kW,eW⟩:=h.rW.form;obtain⟨aR,kR,eR⟩:=h.rR.form;obtain⟨aL,kL,eL⟩:=h.rL.form;obtain⟨nI,O⟩:=zx d.ls.length;obtain⟨nB,W⟩:=zx d.bs.length;obtain⟨nR,M⟩:=zx d.rs.length;have U:Hid (nI=d.ls.length/\nI=d.ms.length):=⟨O,by rw[h.lI];exact O⟩
 have S:Hid (nB=d.bs.length/\nB=d.ws.length):=⟨W,by rw[h.lB];exact W⟩
 have R:Hid (nR=d.rs.length/\nR=d.os.length):=⟨M,by rw[h.lR];exact M⟩
 have c3:nI<9223372036854775807:=by rw[O];exact h.sI
 have c7:nB<9223372036854775807:=by rw[W];exact h.sB
 have c9:nR<9223372036854775807:=by rw[M];exact h.sR
 rw[<-U.out.1] at T;rw[<-U.out.2] at eM;rw[<-S.out.1] at K;rw[<-S.out.2] at eW;rw[<-R.out.1] at eR;rw[<-R.out.2] at eL;have a2:Hid (∀ w',Below w.heap.size w w'->w'.cell? ⟨g,1,none⟩=some (.slice aI nI kI)/\w'.cell? ⟨g,2,none⟩=some (.slice aM nI kM)):=λw' hb=>by
  rw[<-T,<-eM];exact⟨cell_below hb h.cI,cell_below hb h.cM⟩
 have b5:Hid (∀ w',Below w.heap.size w w'->w'.cell? ⟨g,3,none⟩=some (.slice aB nB kB)/\w'.cell? ⟨g,4,none⟩=some (.slice aW nB kW)):=λw' hb=>by
  rw[<-K,<-eW];exact⟨cell_below hb h.cB,cell_below hb h.cW⟩
 have a7:Hid (∀ w',Below w.heap.size w w'->w'.cell? ⟨g,5,none⟩=some (.slice aR nR kR)/\w'.cell? ⟨g,6,none⟩=some (.slice aL nR kL)):=λw' hb=>by
  rw[<-eR,<-eL];exact⟨cell_below hb h.cR,cell_below hb h.cL⟩
 have P:Hid (aS id w (.slice aI nI kI) d.ls/\aS eI w (.slice aM nI kM) d.ms):=by rw[<-T,<-eM];exact⟨h.rI,h.rM⟩
 have L:Hid (aS id w (.slice aB nB kB) d.bs/\aS id w (.slice aW nB kW) d.ws):=by rw[<-K,<-eW];exact⟨h.rB,h.rW⟩
 have V:Hid (aS id w (.slice aR nR kR) d.rs/\aS eI w (.slice aL nR kL) d.os):=by rw[<-eR,<-eL];exact⟨h.rR,h.rL⟩
 have b9:=zh h.fI;have c0:=zh h.fB;have b6:=zh h.fR;clear O W M T eM K eW eR eL h
 go_enter func19,ntmps19
 go_wp2
 go_loopw [3,4] (λi _ wr=>∃ k:Nat,i=.int .i64 k/\k<=nI/\Below w.heap.size w wr) (λi _ _=>nI-(intOf i).toNat)
 case atStart=>exact⟨0,rfl,Zk _,ZB⟩
 case round=>
  obtain⟨k,rfl,hk,p⟩:=hrel;have r:=zh p
  by_cases hlt:k<nI
  .have Y:(k:Int)<nI:=ω;have x:k<d.ls.length:=by have:=U.out;omega
   have y:k<d.ms.length:=by have:=U.out;omega
   obtain⟨c1,c2⟩:=a2 wr p;obtain⟨n,hn,s⟩:=b9 k x y;obtain⟨ar,cr,D⟩:=s.form;rw[length_replicate] at D;obtain⟨bI,oI,qI,J,_⟩:=P.1.nonnil ω;injection J with e1 e2 e3;obtain⟨bM,oM,qM,G,_⟩:=P.2.nonnil ω;injection G with f1 f2 f3;subst e1 f1;have z:=P.1.atq k x;have A:=P.2.atq k y;simp only[id] at z;rw[D] at z s;obtain⟨mk,I⟩:=zx (d.ms[k]);rw[<-I] at A s;have HD:Hid (∀ w',Below w.heap.size w w'->w'.cell? ⟨bI,oI+k,none⟩=some (.slice ar n cr)/\w'.cell? ⟨bM,oM+k,none⟩=some (.int .i64 mk)):=λw' hb=>⟨cell_below hb z,cell_below hb A⟩
   have F:=zh s;obtain⟨d1,d2⟩:=HD wr p;clear p s D x y z A I e2 e3 f2 f3;go_wp2
   go_loopw [4] (λq wr=>∃ j:Nat,q=.int .i64 j/\j<=n/\Below w.heap.size w wr) (λq _=>n-(intOf q).toNat)
   case atStart=>exact⟨0,rfl,Zk _,r⟩
   case round=>
    clear c1 c2 d1 d2 r;obtain⟨j,rfl,hj,p⟩:=hrel;have r:=zh p;obtain⟨c1,c2⟩:=a2 wr p;obtain⟨d1,d2⟩:=HD wr p
    by_cases hjl:j<n
    .have a1:(j:Int)<n:=ω;obtain⟨rb,ro,rc,a3,_⟩:=F.nonnil σ;injection a3 with e1 e2 e3;subst e1;have d3:=(F.below p).atq j (by simp;exact hjl);rw[getElem_replicate] at d3;simp only[eI] at d3;clear p e2 e3;go_wp2
     go_quiet (fail)
     go_wp2
     go_roundw
     case rel=>exact⟨j+1,π,ω,pD r nq⟩
     case measure=>simp[intOf]<;>omega
    .have a1:¬(j:Int)<n:=ω;clear p;go_wp2
     go_roundw
     case rel=>exact⟨k+1,π,ω,r⟩
     case measure=>simp[intOf]<;>omega
  .have Q:¬(k:Int)<nI:=ω;obtain⟨c1,c2⟩:=a2 wr p;clear p;go_wp2
   clear c1 c2
   go_loopw [5,6] (λi _ wr=>∃ k:Nat,i=.int .i64 k/\k<=nB/\Below w.heap.size w wr) (λi _ _=>nB-(intOf i).toNat)
   case atStart=>exact⟨0,rfl,Zk _,r⟩
   case round=>
    clear r Q hk;obtain⟨k2,rfl,b4,p⟩:=hrel;have r:=zh p;obtain⟨c1,c2⟩:=b5 wr p
    by_cases hlt:k2<nB
    .have Y:(k2:Int)<nB:=ω;have x:k2<d.bs.length:=by have:=S.out;omega
     have y:k2<d.ws.length:=by have:=S.out;omega
     obtain⟨l,b3,a9,a8⟩:=c0 k2 x y;obtain⟨bI,oI,qI,J,_⟩:=L.1.nonnil ω;injection J with e1 e2 e3;obtain⟨bM,oM,qM,G,_⟩:=L.2.nonnil ω;injection G with f1 f2 f3;subst e1 f1;have d1:=cell_below p (L.1.atq k2 x);have d2:=cell_below p (L.2.atq k2 y);simp only[id] at d1 d2;have b1:Hid (Calls prog 51 #[d.bs[k2],d.ws[k2]] wr.drew λe w'=>e=.returned (.bool true)/\Below wr.heap.size wr w'):=by
      refine(xt wr.drew _ _ l ((a9.below p).below (ZB.drew)) ((a8.below p).below (ZB.drew)) b3).mono ?_;rintro e w' ⟨rfl,b7⟩;exact⟨rfl,ZB.drew.trans b7⟩
     obtain⟨u1,a5⟩:=zx (d.bs[k2]);obtain⟨u2,Z⟩:=zx (d.ws[k2]);rw[<-a5,<-Z] at b1;rw[<-a5] at d1;rw[<-Z] at d2;clear p a9 a8 b3 e2 e3 f2 f3 a5 Z x y;go_wp2
     go_region_held3 (λw'=>w'.cell? ⟨g,3,none⟩=some (.slice (some ⟨bI,oI,none⟩) nB kB)/\w'.cell? ⟨g,4,none⟩=some (.slice (some ⟨bM,oM,none⟩) nB kW)/\w'.cell? ⟨bI,oI+k2,none⟩=some u1/\w'.cell? ⟨bM,oM+k2,none⟩=some u2) (go_keep) ((go_at_call 51;refine b1.mono ?_;rintro e w3 ⟨rfl,E⟩;have b8:=zh (r.trans (E.mono r.size));have c8:=cell_below E c1;have c6:=cell_below E c2;have z:=cell_below E d1;have A:=cell_below E d2;clear E))
     all_goals
      go_wp2
      go_roundw
      case rel=>exact⟨k2+1,π,ω,b8⟩
      case measure=>simp[intOf]<;>omega
    .have Q:¬(k2:Int)<nB:=ω;clear p;go_wp2
     clear c1 c2
     go_loopw [7,8] (λi _ wr=>∃ k:Nat,i=.int .i64 k/\k<=nR/\Below w.heap.size w wr) (λi _ _=>nR-(intOf i).toNat)
     case atStart=>exact⟨0,rfl,Zk _,r⟩
     case round=>
      clear r Q b4;obtain⟨k,rfl,hk,p⟩:=hrel;have r:=zh p
      by_cases hlt:k<nR
      .have Y:(k:Int)<nR:=ω;have x:k<d.rs.length:=by have:=R.out;omega
       have y:k<d.os.length:=by have:=R.out;omega
       obtain⟨c1,c2⟩:=a7 wr p;obtain⟨n,u,hn,s,a4⟩:=b6 k x y;obtain⟨ar,cr,D⟩:=s.form;rw[length_replicate] at D;obtain⟨bI,oI,qI,J,_⟩:=V.1.nonnil ω;injection J with e1 e2 e3;obtain⟨bM,oM,qM,G,_⟩:=V.2.nonnil ω;injection G with f1 f2 f3;subst e1 f1;have z:=V.1.atq k x;have A:=V.2.atq k y;simp only[id] at z;rw[D] at z s;obtain⟨mk,I⟩:=zx (d.os[k]);rw[<-I] at A a4;obtain⟨ub,uo,uc,b0,b2⟩:=a4.nonnil χ;simp only[length_cons,length_nil,Nat.zero_add] at b0;subst b0;have a6:=b2 0 χ;simp only[getElem_cons_zero,eI,Nat.add_zero] at a6;have HD:Hid (∀ w',Below w.heap.size w w'->w'.cell? ⟨bI,oI+k,none⟩=some (.slice ar n cr)/\w'.cell? ⟨bM,oM+k,none⟩=some (.int .i64 mk)/\w'.cell? ⟨ub,uo,none⟩=some (.int .i64 mk)):=λw' hb=>⟨cell_below hb z,cell_below hb A,cell_below hb a6⟩
       have F:=zh s;obtain⟨d1,d2,d4⟩:=HD wr p;clear p s D x y z A a6 I e2 e3 f2 f3 a4 b2;go_wp2
       go_loopw [8] (λq wr=>∃ j:Nat,q=.int .i64 j/\j<=n/\Below w.heap.size w wr) (λq _=>n-(intOf q).toNat)
       case atStart=>exact⟨0,rfl,Zk _,r⟩
       case round=>
        clear c1 c2 d1 d2 d4 r;obtain⟨j,rfl,hj,p⟩:=hrel;have r:=zh p;obtain⟨c1,c2⟩:=a7 wr p;obtain⟨d1,d2,d4⟩:=HD wr p
        by_cases hjl:j<n
        .have a1:(j:Int)<n:=ω;obtain⟨rb,ro,rc,a3,_⟩:=F.nonnil σ;injection a3 with e1 e2 e3;subst e1;have d3:=(F.below p).atq j (by simp;exact hjl);rw[getElem_replicate] at d3;simp only[id] at d3;clear p e2 e3;go_wp2
         go_quiet (fail)
         go_wp2
         go_roundw
         case rel=>exact⟨j+1,π,ω,pD r nq⟩
         case measure=>simp[intOf]<;>omega
        .have a1:¬(j:Int)<n:=ω;clear p;go_wp2
         go_roundw
         case rel=>exact⟨k+1,π,ω,r⟩
         case measure=>simp[intOf]<;>omega
      .have Q:¬(k:Int)<nR:=ω;obtain⟨c1,c2⟩:=a7 wr p;clear p;go_wp2
       go_ret
       exact⟨rfl,r⟩
def El:Nat->TypeId
 |1=>40|2=>3|3=>30|4=>30|5=>31|_=>3
def Em (_:Nat):Nat:=1
def gi (d:Bd):Nat->Nat
 |0=>0|1=>d.ls.length|2=>d.ms.length|3=>d.bs.length|4=>d.ws.length|5=>d.rs.length|6=>d.os.length|_+7=>0
def jU (d:Bd):Nat->List Value
 |0=>[]|1=>d.ls|2=>d.ms.map eI|3=>d.bs|4=>d.ws|5=>d.rs|6=>d.os.map eI|_+7=>[]
def lD (k:Nat):Nat:=k
def BR (h:lD j=lD k):j=k:=h
def vv (h:0<k):lD k≠0:=by unfold lD;omega
def upd {α:Type} (f:Nat->α) (k:Nat) (x:α):Nat->α:=λj=>if j=k then x else f j
theorem upd_same {α:Type} (f:Nat->α) (k:Nat) (x:α):upd f k x k=x:=by simp[upd]
def upd_ne {α:Type} (f:Nat->α)  (x:α) (h:j≠k):upd f k x j=f j:=by simp[upd,h]
structure Bk (B:Nat) (w:World) (g:Nat) (ρ:Nat->Nat) (N:Int) (vs:Nat->Value) (d:Bd):Prop where
 cl:∀ k,0<k/\k<7->w.cell? ⟨g,lD k,none⟩=some (vs k)
 cn:w.cell? ⟨g,0,none⟩=some (.int .i64 N)
 fz:∀ o,w.frozen? ⟨g,o,none⟩=false
 own:∀ k,0<k/\k<7->w.ownsRow 0 (El k) (Em k) (vs k) (gi d k) (jU d k)
 rol:∀ k,0<k/\k<7->∀ b,(vs k).ownBlock=some b->ρ b=k+2
 rg:ρ g=1
 new:∀ b,w.heap.size<=b->ρ b=0
 lo:∀ b,ρ b≠0->B<=b
section
variable {B:Nat}{w w':World}{g:Nat}{ρ:Nat->Nat}{N:Int}{vs:Nat->Value}{d:Bd}
def Bk.lt (h:Bk B w g ρ N vs d):g<w.heap.size:=aF h.cn
def Bk.put (h:Bk B w g ρ N vs d)  (hk:0<k/\k<7) {d':Bd}{w4:World} (hX:∀ j,j≠k->jU d' j=jU d j/\gi d' j=gi d j)
  (hown:w4.ownsRow 0 (El k) (Em k) (.slice (some ⟨g4,0,none⟩) (gi d' k) c4) (gi d' k) (jU d' k)) (hlt:g4<w4.heap.size)
  (hch:((vs k).ownBlock=some g4/\w.grownBy w4 (some g4))\/(g4=w.heap.size/\w.grownBy w4 none)) :
  Bk B (w4.setCell ⟨g,lD k,none⟩ (.slice (some ⟨g4,0,none⟩) (gi d' k) c4)) g (upd ρ g4 (k+2)) N (upd vs k (.slice (some ⟨g4,0,none⟩) (gi d' k) c4)) d' /\
   (∀ q lim z,(lim=0\/(q<w.heap.size/\9<=ρ q))->Off (upd ρ g4 (k+2)) q lim (w4.setCell ⟨g,lD k,none⟩ (.slice (some ⟨g4,0,none⟩) (gi d' k) c4)) z->Off ρ q lim w z) /\
   (∀ b,b<w.heap.size->(ρ b=0\/9<=ρ b)->(w4.setCell ⟨g,lD k,none⟩ (.slice (some ⟨g4,0,none⟩) (gi d' k) c4)).heap[b]?=w.heap[b]?/\upd ρ g4 (k+2) b=ρ b) /\
   w4.cell? ⟨g,lD k,none⟩=some (vs k)/\w4.frozen? ⟨g,lD k,none⟩=false/\w.heap.size<=(w4.setCell ⟨g,lD k,none⟩ (.slice (some ⟨g4,0,none⟩) (gi d' k) c4)).heap.size /\
   Below B w (w4.setCell ⟨g,lD k,none⟩ (.slice (some ⟨g4,0,none⟩) (gi d' k) c4)):=by
 have hg:=h.lt;have F:=h.lo g (η h.rg);obtain⟨r,hr,p⟩:∃ r,(r=some g4\/r=none)/\w.grownBy w4 r:=by
  rcases hch with⟨_,q⟩|⟨_,q⟩
  .exact⟨_,.inl rfl,q⟩
  .exact⟨_,.inr rfl,q⟩
 have i:ρ g4=k+2\/w.heap.size<=g4:=by
  rcases hch with⟨e,_⟩|⟨e,_⟩
  .exact .inl (h.rol k hk _ e)
  .exact .inr ω
 have s:g4≠g:=by
  rintro rfl;rcases i with e|e
  .have:=h.rg;omega
  .omega
 have A:∀ b,b<w.heap.size->b≠g4->w4.heap[b]?=w.heap[b]?:=λb hb hne=>p.block b hb (by
  rcases hr with rfl|rfl
  .simpa using hne
  .simp)
 have y:(w4.setCell ⟨g,lD k,none⟩ (.slice (some ⟨g4,0,none⟩) (gi d' k) c4)).heap.size=w4.heap.size:=by simp[World.setCell]
 have D:∀ b,b≠g->(w4.setCell ⟨g,lD k,none⟩ (.slice (some ⟨g4,0,none⟩) (gi d' k) c4)).heap[b]?=w4.heap[b]?:=λb hb=>Zf _ _ _ _ (λe=>hb e)
 have l:=A g hg (λe=>s e.symm);have h1:∀ b,b<w.heap.size->(ρ b=0\/9<=ρ b)->b≠g4/\b≠g:=λb hb hρ=>by
  refine⟨?_,?_⟩
  .rintro rfl;rcases i with e|e
   .rw[e] at hρ;omega
   .omega
  .rintro rfl;have:=h.rg;omega
 have x:∀ b,b<w.heap.size->(ρ b=0\/9<=ρ b)->(w4.setCell ⟨g,lD k,none⟩ (.slice (some ⟨g4,0,none⟩) (gi d' k) c4)).heap[b]?=w.heap[b]?/\upd ρ g4 (k+2) b=ρ b:=λb hb hρ=>by
  obtain⟨e1,e2⟩:=h1 b hb hρ;exact⟨(D b e2).trans (A b hb e1),upd_ne _ _ e1⟩
 refine⟨⟨λj hj=>?_,?_,λo=>?_,λj hj=>?_,λj hj b hb=>?_,?_,λb hb=>?_,λb hb=>?_⟩,?_,x,(cell_of_block l _).trans (h.cl k hk),(gR l _).trans (h.fz _),by rw[y];exact p.size,?_⟩
 .by_cases e:j=k
  .subst e;rw[upd_same];exact cell?_setCell_same _ _ _ ((cell_of_block l _).trans (h.cl j hj))
  .rw[upd_ne _ _ e,cell?_setCell_other _ _ _ _ (by simp;exact λq=>e (BR q.symm))];exact(cell_of_block l _).trans (h.cl j hj)
 .rw[cell?_setCell_other _ _ _ _ (by simp;exact λq=>(vv hk.1) q)];exact(cell_of_block l _).trans h.cn
 .rw[frozen?_setCell];exact(gR l _).trans (h.fz o)
 .by_cases e:j=k
  .subst e;rw[upd_same];exact hown.kept (row:=some g) (je _ _ _ _) (.inr (by simp[Value.ownBlock];exact s))
  .rw[upd_ne _ _ e,(hX j e).1,(hX j e).2];refine((h.own j hj).kept p ?_).kept (row:=some g) (je _ _ _ _) ?_
   .cases hv:(vs j).ownBlock with
    |none=>exact .inl rfl
    |some b=>
     right
     have h2:=h.rol j hj b hv;have E:=((h.own j hj).lt b hv).2;rcases hr with rfl|rfl
     .intro q;injection q with q;subst q;rcases i with q|q<;>omega
     .simp
   .cases hv:(vs j).ownBlock with
    |none=>exact .inl rfl
    |some b=>
     right
     intro q;injection q with q;subst q;have:=h.rol j hj b hv;have:=h.rg;omega
 .by_cases e:j=k
  .subst e;rw[upd_same] at hb;simp[Value.ownBlock] at hb;subst hb;rw[upd_same]
  .rw[upd_ne _ _ e] at hb;have h2:=h.rol j hj b hb;have E:=((h.own j hj).lt b hb).2;rw[upd_ne _ _ (by rintro rfl;rcases i with q|q<;>omega)];exact h2
 .rw[upd_ne _ _ (λe=>s e.symm)];exact h.rg
 .rw[y] at hb;rw[upd_ne _ _ ω];exact h.new b (Zc p.size hb)
 .by_cases e:b=g4
  .subst e;rcases i with q|q
   .exact h.lo b ω
   .omega
  .rw[upd_ne _ _ e] at hb;exact h.lo b hb
 .intro q lim z hq ho;refine Off.comp (by rw[y];exact p.size) (λb hb hρ=>?_) (λo ho'=>?_) ho
  .obtain⟨e1,e2⟩:=x b hb (.inl hρ);exact⟨e1,e2.trans hρ⟩
  .rcases hq with rfl|⟨q1,q2⟩
   .omega
   .exact⟨cell_of_block (x q q1 (.inr q2)).1 _,.inl ⟨rfl,ho'⟩⟩
 .refine Below.setCell (Below.grown ZB p ω (λb hb=>?_)) (by simpa using F) _;rcases hr with rfl|rfl
  .injection hb with hb;subst hb;rcases i with q|q
   .exact h.lo g4 ω
   .omega
  .simp at hb
def Bk.away (h:Bk B w g ρ N vs d) {r:Option Nat} (hg:w.grownBy w' r) (hr:∀ b,r=some b->9<=ρ b):Bk B w' g ρ N vs d:=by
 have e:=hg.block g h.lt (λq=>by have:=hr g q.symm;have:=h.rg;omega);refine⟨λk hk=>(cell_of_block e _).trans (h.cl k hk),(cell_of_block e _).trans h.cn,λo=>(gR e _).trans (h.fz o),λk hk=>(h.own k hk).kept hg ?_,h.rol,h.rg,λb hb=>h.new b (Zc hg.size hb),h.lo⟩
 cases hv:(vs k).ownBlock with
 |none=>exact .inl rfl
 |some b=>
  right
  intro q;have:=hr b q.symm;have:=h.rol k hk b hv;omega
def xu (hb:Below w.heap.size w w'):w.grownBy w' none:=⟨hb.os,hb.tape,hb.output,hb.size,λk hk _=>hb.block k hk⟩
def Bk.below (h:Bk B w g ρ N vs d) (hb:Below w.heap.size w w'):Bk B w' g ρ N vs d:=h.away (xu hb) (λ_ e=>by simp at e)
def Bk.role (h:Bk B w g ρ N vs d)  (h1:∀ b,ρ b≠0->ρ b<9->ρ' b=ρ b) (h2:∀ b,w.heap.size<=b->ρ' b=0) (h3:∀ b,ρ' b≠0->B<=b):Bk B w g ρ' N vs d:=
 ⟨h.cl,h.cn,h.fz,h.own,λk hk b hb=>by have:=h.rol k hk b hb;rw[h1 b ω ω];exact this,by have:=h.rg;rw[h1 g ω ω];exact this,h2,h3⟩
def Bk.num (h:Bk B w g ρ N vs d) (M:Int):Bk B (w.setCell ⟨g,0,none⟩ (.int .i64 M)) g ρ M vs d:=by
 have i:=je w g 0 (.int .i64 M);refine⟨λk hk=>?_,cell?_setCell_same _ _ _ h.cn,λo=>by rw[frozen?_setCell];exact h.fz o,λk hk=>(h.own k hk).kept i ?_,h.rol,h.rg,λb hb=>h.new b (Zc i.size hb),h.lo⟩
 .rw[cell?_setCell_other _ _ _ _ (by simp;exact λq=>vv hk.1 q.symm)];exact h.cl k hk
 .cases hv:(vs k).ownBlock with
  |none=>exact .inl rfl
  |some b=>
   right
   intro q;injection q with q;subst q;have:=h.rol k hk b hv;have:=h.rg;omega
end
structure jq (X:World->Prop) (ρ:Nat->Nat) (q lim:Nat) (w:World) (d:Bd):Prop where
 lI:d.ms.length=d.ls.length
 lB:d.ws.length=d.bs.length
 lR:d.os.length=d.rs.length
 fI:∀ i (h1:i<d.ls.length) (h2:i<d.ms.length),Kp ρ q lim w λw'=>∃ n,n<9223372036854775807/\aS eI w' d.ls[i] (replicate n d.ms[i])
 fB:∀ i (h1:i<d.bs.length) (h2:i<d.ws.length),Kp ρ q lim w λw'=>∃ l:List Bool,l.length<=maxLen/\aS eB w' d.bs[i] l/\aS eB w' d.ws[i] l
 fR:∀ i (h1:i<d.rs.length) (h2:i<d.os.length),Kp ρ q lim w λw'=>∃ n u,n<9223372036854775807/\aS id w' d.rs[i] (replicate n u)/\aS eI w' u [d.os[i]]
 fX:Kp ρ q lim w X
theorem jq.to {q lim q' lim':Nat}{d:Bd} (h:jq X ρ q lim w d) (k:∀ w'',Off ρ' q' lim' w' w''->Off ρ q lim w w''):jq X ρ' q' lim' w' d:=
 ⟨h.lI,h.lB,h.lR,λi h1 h2 w'' o=>h.fI i h1 h2 w'' (k w'' o),λi h1 h2 w'' o=>h.fB i h1 h2 w'' (k w'' o),λi h1 h2 w'' o=>h.fR i h1 h2 w'' (k w'' o),λw'' o=>h.fX w'' (k w'' o)⟩
def jq.addI {d:Bd} (h:jq X ρ q lim w d) {l:Value}{m:Int} (hn:n<9223372036854775807) (k:Kp ρ q lim w λw'=>aS eI w' l (replicate n m)):jq X ρ q lim w {d with ls:=d.ls++[l],ms:=d.ms++[m]}:=by
 have e:=h.lI;refine⟨by simp[e],h.lB,h.lR,λi h1 h2 w'' o=>?_,h.fB,h.fR,h.fX⟩
 simp only at h1 h2 ⊢
 by_cases hi:i<d.ls.length
 .rw[Zp hi,Zp ω];exact h.fI i hi ω w'' o
 .have:i=d.ls.length:=by simp at h1;omega
  subst this;refine⟨n,hn,?_⟩;rw[getElem_append_right zq,getElem_append_right ω]
  simpa [e] using k w'' o
def jq.addB {d:Bd} (h:jq X ρ q lim w d) {l:List Bool} (hn:l.length<=maxLen) (k:Kp ρ q lim w λw'=>aS eB w' v l/\aS eB w' u l):jq X ρ q lim w {d with bs:=d.bs++[v],ws:=d.ws++[u]}:=by
 have e:=h.lB;refine⟨h.lI,by simp[e],h.lR,h.fI,λi h1 h2 w'' o=>?_,h.fR,h.fX⟩
 simp only at h1 h2 ⊢
 by_cases hi:i<d.bs.length
 .rw[Zp hi,Zp ω];exact h.fB i hi ω w'' o
 .have:i=d.bs.length:=by simp at h1;omega
  subst this;refine⟨l,hn,?_⟩;rw[getElem_append_right zq,getElem_append_right ω]
  simpa [e] using k w'' o
def jq.addR {d:Bd} (h:jq X ρ q lim w d) {m:Int} (hn:n<9223372036854775807) (k:Kp ρ q lim w λw'=>aS id w' v (replicate n u)/\aS eI w' u [m]):jq X ρ q lim w {d with rs:=d.rs++[v],os:=d.os++[m]}:=by
 have e:=h.lR;refine⟨h.lI,h.lB,by simp[e],h.fI,h.fB,λi h1 h2 w'' o=>?_,h.fX⟩
 simp only at h1 h2 ⊢
 by_cases hi:i<d.rs.length
 .rw[Zp hi,Zp ω];exact h.fR i hi ω w'' o
 .have:i=d.rs.length:=by simp at h1;omega
  subst this;refine⟨n,u,hn,?_⟩;rw[getElem_append_right zq,getElem_append_right ω]
  simpa [e] using k w'' o
def Bk.stl {d:Bd} (h:Bk B w g ρ N vs d) (f:jq X ρ q lim w d) (s1:d.ls.length<9223372036854775807) (s2:d.bs.length<9223372036854775807) (s3:d.rs.length<9223372036854775807) :
  Mz w g ⟨vs 1,vs 2,vs 3,vs 4,vs 5,vs 6⟩ d:=
 ⟨h.cl 1 ω,h.cl 2 ω,h.cl 3 ω,h.cl 4 ω,h.cl 5 ω,h.cl 6 ω,
  jl (enc:=id) (by have:=h.own 1 ω;simpa [El,Em,gi,jU] using this),jl (by have:=h.own 2 ω;simpa [El,Em,gi,jU] using this),
  jl (enc:=id) (by have:=h.own 3 ω;simpa [El,Em,gi,jU] using this),jl (enc:=id) (by have:=h.own 4 ω;simpa [El,Em,gi,jU] using this),
  jl (enc:=id) (by have:=h.own 5 ω;simpa [El,Em,gi,jU] using this),jl (by have:=h.own 6 ω;simpa [El,Em,gi,jU] using this),
  f.lI,f.lB,f.lR,s1,s2,s3,λi h1 h2=>(f.fI i h1 h2).now,λi h1 h2=>(f.fB i h1 h2).now,λi h1 h2=>(f.fR i h1 h2).now⟩
open Go.RowKit
section
variable {B:Nat}{w w4:World}{g:Nat}{ρ:Nat->Nat}{N:Int}{vs:Nat->Value}{d:Bd}
def Bk.B_le (h:Bk B w g ρ N vs d):B<=w.heap.size:=by
 have:=h.lo g (η h.rg);have:=h.lt;omega
def Bk.grow (h:Bk B w g ρ N vs d) {e:TypeId} (hq:ρ q=9) (hql:q<w.heap.size) (ho:Ba w e q n cap xs)
  (ho4:w4.ownsRow 0 e 1 (.slice (some ⟨g4,0,none⟩) (n+1) cap4) (n+1) (xs++ys)) (hlt:g4<w4.heap.size) (hch:(some q=some g4/\w.grownBy w4 (some g4))\/(g4=w.heap.size/\w.grownBy w4 none)) :
  Bk B w4 g (upd (upd ρ q 0) g4 9) N vs d/\(∀ w'',Off (upd (upd ρ q 0) g4 9) g4 (n+1) w4 w''->Off ρ q n w w'')/\Below B w w4/\upd (upd ρ q 0) g4 9 g4=9/\(∀ b,b<w.heap.size->b≠q->w4.heap[b]?=w.heap[b]?\/(ρ b≠0/\ρ b<9))/\(∀ b,b<w.heap.size->b≠q->upd (upd ρ q 0) g4 9 b=ρ b):=by
 have p:=h.B_le;rcases hch with⟨e1,hg⟩|⟨rfl,hg⟩
 .injection e1 with e1;subst e1;have e2:upd (upd ρ q 0) q 9=ρ:=by
   funext b
   by_cases e:b=q
   .subst e;rw[upd_same,hq]
   .rw[upd_ne _ _ e,upd_ne _ _ e]
  rw[e2];refine⟨h.away hg (λb e=>by injection e with e;subst e;omega),λw'' o=>?_,Below.grown ZB hg p (λb e=>by injection e with e;subst e;exact h.lo q ω),hq,λb hb l=>.inl (hg.block b hb (by simpa using l)),λ_ _ _=>rfl⟩;refine Off.comp hg.size (λb hb hr=>⟨hg.block b hb (by intro e;injection e with e;subst e;omega),hr⟩) (λi hi=>⟨?_,.inl ⟨rfl,ω⟩⟩) o;have r:xs.length=n:=ho.1;have hx:xs[i]?=some xs[i]:=Zj ω;rw[ho.2.1 i _ hx,(Ba.of_owns _ ho4).2.1 i _ (by rw[Zo ω];exact hx)]
 .have l:q≠w.heap.size:=ω;refine⟨(h.away hg (λb e=>by simp at e)).role (λb h1 h2=>?_) (λb hb=>?_) (λb hb=>?_),λw'' o=>?_,Below.grown ZB hg p (λb e=>by simp at e),upd_same _ _ _,λb hb l=>.inl (hg.block b hb χ),λb hb l=>?_⟩
  .have e1:b≠q:=by rintro rfl;omega
   have e2:b≠w.heap.size:=by rintro rfl;have:=h.new _ zq;omega
   rw[upd_ne _ _ e2,upd_ne _ _ e1]
  .rw[upd_ne _ _ ω,upd_ne _ _ ω];exact h.new b (Zc hg.size hb)
  .by_cases e:b=w.heap.size
   .omega
   .rw[upd_ne _ _ e] at hb
    by_cases e:b=q
    .subst e;exact h.lo b ω
    .rw[upd_ne _ _ e] at hb;exact h.lo b hb
  .refine Off.comp hg.size (λb hb hr=>⟨hg.block b hb χ,?_⟩) (λi hi=>⟨cell_of_block (hg.block q hql χ) _,.inr ⟨?_,Zd hql hg.size⟩⟩) o
   .rw[upd_ne _ _ ω]
    by_cases e:b=q
    .subst e;exact upd_same _ _ _
    .rw[upd_ne _ _ e];exact hr
   .rw[upd_ne _ _ l,upd_same]
  .rw[upd_ne _ _ ω,upd_ne _ _ l]
def Bk.rest (h:Bk B w g ρ N vs d)  (hq:ρ q=9) (hql:q<w.heap.size):Bk B w g (upd ρ q 0) N vs d/\(∀ w'',Off (upd ρ q 0) 0 0 w w''->Off ρ q n w w''):=by
 refine⟨h.role (λb h1 h2=>upd_ne _ _ (by rintro rfl;omega)) (λb hb=>?_) (λb hb=>?_),λw'' o=>?_⟩
 .rw[upd_ne _ _ ω];exact h.new b hb
 .by_cases e:b=q
  .subst e;rw[upd_same] at hb;omega
  .rw[upd_ne _ _ e] at hb;exact h.lo b hb
 .refine Off.comp zq (λb hb hr=>⟨rfl,?_⟩) (λi hi=>⟨rfl,.inr ⟨upd_same _ _ _,hql⟩⟩) o;rw[upd_ne _ _ (by rintro rfl;omega)];exact hr
end
def Ah {α:Type}{enc:α->Value}{e:TypeId}{l:List α} (hl:l.length=n) (ho:Ba w e q n cap (l.map enc)):Kp ρ q n w λw'=>aS enc w' (.slice (some ⟨q,0,none⟩) n cap) l:=by
 intro w' o;subst hl;refine .inr ⟨q,0,cap,rfl,λj hj=>?_⟩;rw[Nat.zero_add,o.part j hj];exact ho.2.1 j _ (by simp[hj])
open Go.RowKit
def bC (h:b≠g):(w.setCell ⟨g,o,none⟩ v).heap[b]?=w.heap[b]?:=Zf _ _ _ _ h
def Ba.of_block {e:TypeId} (h:Ba w e q n cap xs) (hb:w'.heap[q]?=w.heap[q]?):Ba w' e q n cap xs:=by
 obtain⟨h1,h2,h3⟩:=h;refine⟨h1,λj u hu=>(cell_of_block hb j).trans (h2 j u hu),?_⟩;rcases h3 with h3|h3
 .exact .inl h3
 .right
  refine⟨h3.1,?_⟩;rcases h3.2 with q|⟨g,l,p,e1,e2,e3,r⟩
  .exact .inl q
  .have i:=e1;injection i with i;injection i with i;injection i with i;subst i;exact .inr ⟨q,l,p,e1,e2,hb.trans e3,r⟩
structure IJ (X:World->Prop) (B:Nat) (w wr:World) (g:Nat) (ρ0:Nat->Nat) (N:Int) (dB dF:Bd) (q0 n:Nat) (e:TypeId) (xs:List Value) (ρ:Nat->Nat) (vs:Nat->Value) (q cap:Nat):Prop where
 bk:Bk B wr g ρ N vs dB
 fc:jq X ρ q n wr dF
 rq:ρ q=9
 ql:q<wr.heap.size
 row:Ba wr e q n cap xs
 bl:Below B w wr
 sz:w.heap.size<=wr.heap.size
 oth:∀ b,b<w.heap.size->9<=ρ0 b->b≠q0->wr.heap[b]?=w.heap[b]?/\ρ b=ρ0 b/\b≠q
section
variable {X:World->Prop}{B:Nat}{w wr wa w4:World}{g:Nat}{ρ0:Nat->Nat}{N:Int}{dB dF:Bd}{q0 n:Nat}{e:TypeId}{xs:List Value}{ρ:Nat->Nat}{vs:Nat->Value}{q cap:Nat}
theorem IJ.below (h:IJ X B w wr g ρ0 N dB dF q0 n e xs ρ vs q cap) (ha:Below wr.heap.size wr wa):IJ X B w wa g ρ0 N dB dF q0 n e xs ρ vs q cap:=by
 have hs:=ha.size;have hB:=h.bk.B_le;refine⟨h.bk.below ha,h.fc.to λw'' o=>?_,h.rq,Zd h.ql hs,h.row.of_block (ha.block q h.ql),h.bl.trans (ha.mono hB),Zc h.sz hs,λb hb h9 hne=>?_⟩
 .exact Off.comp hs (λb hb hr=>⟨ha.block b hb,hr⟩) (λi hi=>⟨cell_of_block (ha.block q h.ql) _,.inl ⟨rfl,hi⟩⟩) o
 .obtain⟨e1,e2,e3⟩:=h.oth b hb h9 hne;exact⟨(ha.block b (Zd hb h.sz)).trans e1,e2,e3⟩
theorem IJ.put (h:IJ X B w wr g ρ0 N dB dF q0 n e xs ρ vs q cap) (k:Nat) (hk:0<k/\k<7) {dB':Bd} (hX:∀ j,j≠k->jU dB' j=jU dB j/\gi dB' j=gi dB j) (hn':gi dB' k=n') (hx':jU dB' k=xs')
  (hown:w4.ownsRow 0 (El k) (Em k) (.slice (some ⟨g4,0,none⟩) n' c4) n' xs') (hlt:g4<w4.heap.size)
  (hch:((vs k).ownBlock=some g4/\wr.grownBy w4 (some g4))\/(g4=wr.heap.size/\wr.grownBy w4 none)) :
  IJ X B w (w4.setCell ⟨g,lD k,none⟩ (.slice (some ⟨g4,0,none⟩) n' c4)) g ρ0 N dB' dF q0 n e xs (upd ρ g4 (k+2)) (upd vs k (.slice (some ⟨g4,0,none⟩) n' c4)) q cap /\
   w4.cell? ⟨g,lD k,none⟩=some (vs k)/\w4.frozen? ⟨g,lD k,none⟩=false/\(∀ j,0<j/\j<7->j≠k->w4.cell? ⟨g,lD j,none⟩=some (vs j))/\w4.cell? ⟨g,0,none⟩=some (.int .i64 N):=by
 subst hn' hx';obtain⟨b1,b2,b3,b4,b5,b6,b7⟩:=h.bk.put hk hX hown hlt hch;have i:=b3 q h.ql (.inr (by rw[h.rq];omega));refine⟨⟨b1,h.fc.to λw'' o=>b2 q n w'' (.inr ⟨h.ql,by rw[h.rq];omega⟩) o,by rw[i.2];exact h.rq,Zd h.ql b6,h.row.of_block i.1,h.bl.trans b7,Zc h.sz b6,λb hb h9 hne=>?_⟩,b4,b5,λj hj hne=>?_,?_⟩
 .obtain⟨e1,e2,e3⟩:=h.oth b hb h9 hne;obtain⟨e4,e5⟩:=b3 b (Zd hb h.sz) (.inr (by rw[e2];exact h9));exact⟨e4.trans e1,e5.trans e2,e3⟩
 .have:=b1.cl j hj;rw[upd_ne _ _ hne,cell?_setCell_other _ _ _ _ (by simp;exact λq=>hne (BR q.symm))] at this;exact this
 .have:=b1.cn;rw[cell?_setCell_other _ _ _ _ (by simp;exact λq=>(vv hk.1) q)] at this;exact this
theorem IJ.grow (h:IJ X B w wr g ρ0 N dB dF q0 n e xs ρ vs q cap)  (hz:xs++ys=zs) (ho4:w4.ownsRow 0 e 1 (.slice (some ⟨g4,0,none⟩) (n+1) cap4) (n+1) (xs++ys)) (hlt:g4<w4.heap.size)
  (hch:(some q=some g4/\wr.grownBy w4 (some g4))\/(g4=wr.heap.size/\wr.grownBy w4 none)):IJ X B w w4 g ρ0 N dB dF q0 (n+1) e zs (upd (upd ρ q 0) g4 9) vs g4 cap4:=by
 subst hz;obtain⟨b1,b2,b3,b4,b5,b6⟩:=h.bk.grow h.rq h.ql h.row ho4 hlt hch;have hs:wr.heap.size<=w4.heap.size:=by rcases hch with⟨_,q⟩|⟨_,q⟩<;>exact q.size
 refine⟨b1,h.fc.to b2,b4,hlt,Ba.of_owns _ ho4,h.bl.trans b3,Zc h.sz hs,λb hb h9 hne=>?_⟩;obtain⟨e1,e2,e3⟩:=h.oth b hb h9 hne;have i:=Zd hb h.sz;refine⟨?_,(b6 b i e3).trans e2,?_⟩
 .rcases b5 b i e3 with q|⟨_,q⟩
  .exact q.trans e1
  .omega
 .rintro rfl;rcases hch with⟨e4,_⟩|⟨e4,_⟩
  .injection e4 with e4;exact e3 e4.symm
  .omega
def IJ.fact (h:IJ X B w wr g ρ0 N dB dF q0 n e xs ρ vs q cap) {dF':Bd} (hf:jq X ρ q n wr dF'):IJ X B w wr g ρ0 N dB dF' q0 n e xs ρ vs q cap:=⟨h.bk,hf,h.rq,h.ql,h.row,h.bl,h.sz,h.oth⟩
theorem IJ.rest (h:IJ X B w wr g ρ0 N dB dF q0 n e xs ρ vs q cap):Bk B wr g (upd ρ q 0) N vs dB/\jq X (upd ρ q 0) 0 0 wr dF/\∀ b,b<w.heap.size->9<=ρ0 b->b≠q0->wr.heap[b]?=w.heap[b]?/\upd ρ q 0 b=ρ0 b:=by
 obtain⟨b1,b2⟩:=h.bk.rest (n:=n) h.rq h.ql;refine⟨b1,h.fc.to b2,λb hb h9 hne=>?_⟩;obtain⟨e1,e2,e3⟩:=h.oth b hb h9 hne;exact⟨e1,(upd_ne _ _ e3).trans e2⟩
end
def IJ.start {d:Bd} (hb:Bk B w g ρ N vs d) (hf:jq X ρ 0 0 w d) (hq:ρ q0=9) (hql:q0<w.heap.size) (hn:Nw w q0 n f) (M:Int) :
  Bk B (w.setCell ⟨g,0,none⟩ (.int .i64 M)) g ρ M vs d/\jq X ρ 0 0 (w.setCell ⟨g,0,none⟩ (.int .i64 M)) d/\Nw (w.setCell ⟨g,0,none⟩ (.int .i64 M)) q0 n f/\Below B w (w.setCell ⟨g,0,none⟩ (.int .i64 M))/\(∀ b,b≠g->(w.setCell ⟨g,0,none⟩ (.int .i64 M)).heap[b]?=w.heap[b]?)/\(w.setCell ⟨g,0,none⟩ (.int .i64 M)).heap.size=w.heap.size:=by
 have h:=hb.lo g (η hb.rg);have hs:(w.setCell ⟨g,0,none⟩ (.int .i64 M)).heap.size=w.heap.size:=by simp[World.setCell]
 refine⟨hb.num M,hf.to λw'' o=>?_,hn.of_block (bC (by rintro rfl;have:=hb.rg;omega)),Below.setCell ZB (by simpa using h) _,λb hne=>bC hne,hs⟩;exact Off.comp (by rw[hs];exact zq) (λb hb' hr=>⟨bC (by rintro rfl;have:=hb.rg;omega),hr⟩) (λi hi=>ω) o
structure LJ (X:World->Prop) (B:Nat) (w wr:World) (g:Nat) (ρ:Nat->Nat) (N:Int) (vs:Nat->Value) (d:Bd) (q0 n:Nat) (f:Nat->Value):Prop where
 bk:Bk B wr g ρ N vs d
 fc:jq X ρ 0 0 wr d
 nw:Nw wr q0 n f
 bl:Below B w wr
 sz:w.heap.size<=wr.heap.size
 rq:ρ q0=9
 ql:q0<wr.heap.size
 oth:∀ b,b<w.heap.size->9<=ρ b->b≠q0->wr.heap[b]?=w.heap[b]?
theorem LJ.set {d:Bd} (h:LJ X B w wr g ρ N vs d q0 n f) (k:Nat) (hk:k<n) (v:Value) :
  LJ X B w (wr.setCell ⟨q0,k,none⟩ v) g ρ N vs d q0 n (λj=>if j=k then v else f j):=by
 have hs:(wr.setCell ⟨q0,k,none⟩ v).heap.size=wr.heap.size:=by simp[World.setCell]
 have l:=h.bk.lo q0 (η h.rq);refine⟨h.bk.away (r:=some q0) (je _ _ _ _) (λb e=>by injection e with e;subst e;have:=h.rq;omega),h.fc.to λw'' o=>?_,h.nw.set k hk v,h.bl.setCell (by simpa using l) _,by rw[hs];exact h.sz,h.rq,by rw[hs];exact h.ql,λb hb h9 hne=>(bC hne).trans (h.oth b hb h9 hne)⟩;exact Off.comp (by rw[hs];exact zq) (λb hb' hr=>⟨bC (by rintro rfl;have:=h.rq;omega),hr⟩) (λi hi=>ω) o
theorem LJ.congr {d:Bd}{f f':Nat->Value} (h:LJ X B w wr g ρ N vs d q0 n f) (e:∀ j,j<n->f j=f' j):LJ X B w wr g ρ N vs d q0 n f':=⟨h.bk,h.fc,h.nw.congr e,h.bl,h.sz,h.rq,h.ql,h.oth⟩
def LJ.done {d:Bd} (h:LJ X B w wr g ρ N vs d q0 n f) {e:TypeId} (hl:xs.length=n) (hx:∀ j u,xs[j]?=some u->f j=u) :
  IJ X B w wr g ρ N d d q0 n e xs ρ vs q0 n:=by
 refine⟨h.bk,h.fc.to λw'' o=>⟨o.size,o.block,λi hi=>ω⟩,h.rq,h.ql,⟨hl,λj u hu=>?_,.inl rfl⟩,h.bl,h.sz,λb hb h9 hne=>⟨h.oth b hb h9 hne,rfl,hne⟩⟩;have hj:j<n:=by rw[<-hl];exact(List.getElem?_eq_some_iff.1 hu).1
 rw[h.nw.c j hj,hx j u hu]
open Go.RowKit
def F8 (n:Nat) (m:Int):(replicate n m).map eI++[eI m]=(replicate (n+1) m).map eI:=by
 rw[replicate_succ',map_append];rfl
def cells_one (w:World) (x:Value) (T:TypeId):(w.alloc (.cells #[x] T)).cell? ⟨w.heap.size,0,none⟩=some x:=by simp[go_sem]
def kN (w:World) (x:Value) (T:TypeId)  (h:w.heap.size=k):∀ j u,[x][j]?=some u->(w.alloc (.cells #[x] T)).cell? ((⟨k,0,none⟩:Addr).add j)=some u:=by
 subst h;exact eO w x T
def qR (w:World) (x:Value) (T:TypeId)  (h:w.heap.size=k):(w.alloc (.cells #[x] T)).cell? ⟨k,0,none⟩=some x:=by
 subst h;exact cells_one w x T
theorem dZ (w:World) (a:Addr) (v:Value):(w.setCell a v).heap.size=w.heap.size:=by simp[World.setCell]
variable (X B w g ρ N vs) in
def F9 (d:Bd) (q0 n:Nat) (f:Nat->Value) (hb:Bk B w g ρ N vs d) (hf:jq X ρ 0 0 w d) (hq:ρ q0=9) (hql:q0<w.heap.size) (hn:Nw w q0 n f)
  (hn2:n<=1048576) (hN1:0<=N) (hN2:N<1000000000000) (hs:d.ls.length<=1000000000000) :
  Calls prog 53 #[.pointer (some ⟨g,0,none⟩),.slice (some ⟨q0,0,none⟩) n n] w λe w'=>e=.returned (.tuple #[])/\∃ ρ' h es mm,Bk B w' g ρ' (N+1) h {d with ls:=d.ls++es,ms:=d.ms++mm}/\jq X ρ' 0 0 w' {d with ls:=d.ls++es,ms:=d.ms++mm}/\es.length=4/\mm.length=4/\Below B w w'/\w.heap.size<=w'.heap.size/\∀ b,b<w.heap.size->9<=ρ b->b≠q0->w'.heap[b]?=w.heap[b]?/\ρ' b=ρ b:=by
 obtain⟨s1,s2,s3,s4,s5,s6⟩:=IJ.start hb hf hq hql hn (N+1);obtain⟨w1,x⟩:=zx (w.setCell ⟨g,0,none⟩ (.int .i64 (N+1)));rw[<-x] at s1 s2 s3 s4 s5 s6;have HW:=zh x;have HL:Hid (LJ X B w w1 g ρ (N+1) vs d q0 n f):=⟨s1,s2,s3,s4,ω,hq,ω,λb hb' h9 _=>s5 b (by rintro rfl;have:=hb.rg;omega)⟩
 have cN:=hb.cn;have cF:=hb.fz 0;obtain⟨m,hm⟩:=zx (-1000-(N+1));have HM:=zh hm;have a8:=zh hf.lI;obtain⟨i1,a3,a4,b3,b0⟩:=info_parts Tryz.infoLI;obtain⟨i2,D,G,O,S⟩:=info_parts Tryz.infoI;clear s1 s2 s3 s4 s5 s6 x hb hf hn hm
 go_enter func53,ntmps53
 go_wp2
 rw[<-HW.out]
 go_loopw [5] (λi wr=>∃ k:Nat,i=.int .i64 k/\k<=n/\LJ X B w wr g ρ (N+1) vs d q0 n (λj=>if j<k then eI m else f j)) (λi _=>n-(intOf i).toNat)
 case atStart=>exact⟨0,rfl,Zk _,HL.out.congr (λj _=>χ)⟩
 case round=>
  obtain⟨k,rfl,hk,hl⟩:=hrel;clear HL HW;have HL:=zh hl;clear hl
  by_cases hlt:k<n
  .have V:(k:Int)<n:=ω;have c1:=HL.out.nw.c k hlt;have f1:=HL.out.nw.fz k;go_wp2
   go_roundw
   case rel=>
    refine⟨k+1,π,ω,?_⟩;have:=HL.out.set k hlt (eI m);rw[HM.out] at this ⊢
    exact this.congr (λj _=>by
     by_cases e1:j=k
     .subst e1;simp
     .by_cases e2:j<k
      .simp[e1,e2,lt_succ_of_lt e2]
      .simp[e1,e2,show ¬ j<k+1 by omega])
   case measure=>simp[intOf]<;>omega
  .have Q:¬(k:Int)<n:=ω;have Z:k=n:=ω
   have HJ:Hid (IJ X B w wr g ρ (N+1) d d q0 n 3 ((replicate n m).map eI) ρ vs q0 n):=HL.out.done χ (λj u hu=>by
    obtain⟨hj,e⟩:=List.getElem?_eq_some_iff.1 hu;simp at hj e
    rw[Zi ω,<-e])
   clear HL Z;go_wp2
   rw[<-HM.out]
   go_loopw [1,6] (λl i wr=>∃(kk:Nat) (ρ':Nat->Nat) (h:Nat->Value) (q cap:Nat) (es:List Value) (mm:List Int),l=.slice (some ⟨q,0,none⟩) (n+kk) cap/\i=.int .i64 kk/\kk<=4/\es.length=kk/\mm.length=kk/\IJ X B w wr g ρ (N+1) {d with ls:=d.ls++es,ms:=d.ms++mm} {d with ls:=d.ls++es,ms:=d.ms++mm} q0 (n+kk) 3 ((replicate (n+kk) m).map eI) ρ' h q cap) (λ_ i _=>4-(intOf i).toNat)
   case atStart=>exact⟨0,ρ,vs,q0,n,[],[],rfl,rfl,ω,rfl,rfl,by simpa using HJ.out⟩
   case round=>
    clear HJ Q hk;obtain⟨kk,ρ',h,q,cap,es,mm,rfl,rfl,b8,b1,a7,hj⟩:=hrel;have HJ:=zh hj;clear hj;obtain⟨nn,z⟩:=zx (n+kk);rw[<-z] at HJ ⊢;have b2:=zh z;have b6:nn<=1048580:=ω;clear z
    by_cases hlt:kk<4
    .have V:(kk:Int)<4:=ω;have c2:=HJ.bk.cl 1 ω;obtain⟨v1,p⟩:=zx (h 1);obtain⟨v2,M⟩:=zx (h 2);rw[<-p] at c2;simp only[lD] at c2;obtain⟨nI,r⟩:=zx ((d.ls++es).length);obtain⟨nM,y⟩:=zx ((d.ms++mm).length);have b7:nI<=1000000000004:=by rw[r,length_append];omega
     have b5:nM<=1000000000004:=by rw[y,length_append,a8.out];omega
     have b4:=zh r;have F:=zh y;have T:=zh p;have s:=zh M;have a1:Hid (wr.ownsRow 0 40 1 v1 nI (d.ls++es)):=by
      show ownsRow _ _ _ _ _ _ _;rw[p,r];exact HJ.bk.own 1 ω
     clear p M r y;go_wp2_with (first|(at_builtin;refine fH _ rfl (.tmp 53) (.tmp 55) 40 rfl 3 i2 (.int .i64 0) 8 underlying40 D G O S rfl q nn cap ((replicate nn m).map eI) rfl ((HB.row).of_block (Ze _ _ _ HB.ql)) ⟨w6.heap.size,0,none⟩ 1 (.int .i64 m) rfl (qR _ _ _ (dZ _ _ _)) rfl Zs ω ?_;intro g3 k3 w8 U K a6;have HC:=zh (((HB.fact (HB.fc.addI (n:=nn) ω (Ah χ HB.row))).below ZA).grow (F8 nn m) U a6 K);clear U K)|(at_builtin;refine aD _ rfl (.tmp 47) (.tmp 49) 40 rfl 0 3 i2 (.int .i64 0) 1 8 underlying40 D G O S rfl Zr v2 nM ((d.ms++mm).map eI) rfl (Zm a5 _) ⟨w4.heap.size,0,none⟩ 1 1 [.int .i64 m] rfl rfl (kN _ _ _ (dZ _ _ _)) Zt ω Zs ω (Zk _) _ rfl ?_;intro g2 k2 w6 J I a9;obtain⟨A,c3,f3,_,_⟩:=(HA.below ZA).put 2 ω (dB':={d with ls:=d.ls++es++[.slice (some ⟨q,0,none⟩) nn cap],ms:=d.ms++mm++[m]}) (λj hj=>by match j with|0=>exact⟨rfl,rfl⟩|1=>exact⟨rfl,rfl⟩|2=>exact absurd rfl hj|3=>exact⟨rfl,rfl⟩|4=>exact⟨rfl,rfl⟩|5=>exact⟨rfl,rfl⟩|6=>exact⟨rfl,rfl⟩|_+7=>exact⟨rfl,rfl⟩) (n':=nM+1) (xs':=(d.ms++mm).map eI++[.int .i64 m]) (by rw[F.out];simp[gi];omega) (by simp[jU]) J a9 (by rw[upd_ne _ _ ω,<-s.out];exact I);rw[upd_ne _ _ ω,<-s.out] at c3;have HB:=zh A;simp only[lD] at c3 f3;clear J I A)|(at_builtin;refine aD _ rfl (.tmp 37) (.tmp 39) 31 rfl 0 40 i1 (.slice none 0 0) 1 24 underlying31 a3 a4 b3 b0 rfl Zr v1 nI (d.ls++es) rfl (Zm a1 _) ⟨wr.heap.size,0,none⟩ 1 1 [.slice (some ⟨q,0,none⟩) nn cap] rfl rfl (eO _ _ _) Zt ω Zs ω (Zk _) _ rfl ?_;intro g1 k1 w4 P Y a2;obtain⟨L,E,f2,cc,_⟩:=(HJ.below ZA).put 1 ω (dB':={d with ls:=d.ls++es++[.slice (some ⟨q,0,none⟩) nn cap],ms:=d.ms++mm}) (λj hj=>by match j with|0=>exact⟨rfl,rfl⟩|1=>exact absurd rfl hj|2=>exact⟨rfl,rfl⟩|3=>exact⟨rfl,rfl⟩|4=>exact⟨rfl,rfl⟩|5=>exact⟨rfl,rfl⟩|6=>exact⟨rfl,rfl⟩|_+7=>exact⟨rfl,rfl⟩) (n':=nI+1) (xs':=d.ls++es++[.slice (some ⟨q,0,none⟩) nn cap]) (by rw[b4.out];simp[gi];omega) rfl P a2 (by rw[<-T.out];exact Y);rw[<-T.out] at E;have W:=cc 2 ω ω;rw[<-s.out] at W;have HA:=zh L;have a5:Hid ((w4.setCell ⟨g,1,none⟩ (.slice (some ⟨g1,0,none⟩) (nI+1) k1)).ownsRow 0 3 1 v2 nM ((d.ms++mm).map eI)):=(by show ownsRow _ _ _ _ _ _ _;rw[s.out,F.out];exact HA.bk.own 2 ω);simp only[lD] at E f2 W;clear P Y L cc))
     go_roundw
     case rel=>
      have hC:=HC;have R:nn+1=n+(kk+1):=by have:=b2.out;omega
      rw[append_assoc,append_assoc,R] at hC;exact⟨kk+1,_,_,g3,k3,_,_,by rw[R],π,ω,by simp[b1],by simp[a7],hC⟩
     case measure=>simp[intOf]<;>omega
    .have Q:¬(kk:Int)<4:=ω;go_wp2
     refine bodyPost_end (results_none rfl _ _ _) rfl ?_;obtain⟨r1,r2,r3⟩:=HJ.rest;exact⟨rfl,_,_,es,mm,r1,r2,ω,ω,HJ.bl,HJ.sz,r3⟩
def Tryz.infoLB:(prog.info? 30).map (λi=>(i.zero,i.size,i.bytes))=some (some (.slice none 0 0),1,24):=κ
section
variable {X:World->Prop}{B:Nat}{w wr wa w4:World}{g:Nat}{ρ0:Nat->Nat}{N:Int}{dB dF:Bd}{q0 n:Nat}{e:TypeId}{xs:List Value}{ρ:Nat->Nat}{vs:Nat->Value}{q cap:Nat}
def IJ.put_far (h:IJ X B w wr g ρ0 N dB dF q0 n e xs ρ vs q cap) (k:Nat) (hk:0<k/\k<7) {dB':Bd} (hX:∀ j,j≠k->jU dB' j=jU dB j/\gi dB' j=gi dB j) (hn':gi dB' k=n') (hx':jU dB' k=xs')
  (hown:w4.ownsRow 0 (El k) (Em k) (.slice (some ⟨g4,0,none⟩) n' c4) n' xs') (hlt:g4<w4.heap.size)
  (hch:((vs k).ownBlock=some g4/\wr.grownBy w4 (some g4))\/(g4=wr.heap.size/\wr.grownBy w4 none)) :
  ∀ b,b<wr.heap.size->(ρ b=0\/9<=ρ b)->(w4.setCell ⟨g,lD k,none⟩ (.slice (some ⟨g4,0,none⟩) n' c4)).heap[b]?=wr.heap[b]?/\upd ρ g4 (k+2) b=ρ b:=by
 subst hn' hx';exact(h.bk.put hk hX hown hlt hch).2.2.1
def IJ.grow_far (h:IJ X B w wr g ρ0 N dB dF q0 n e xs ρ vs q cap)  (ho4:w4.ownsRow 0 e 1 (.slice (some ⟨g4,0,none⟩) (n+1) cap4) (n+1) (xs++ys)) (hlt:g4<w4.heap.size)
  (hch:(some q=some g4/\wr.grownBy w4 (some g4))\/(g4=wr.heap.size/\wr.grownBy w4 none)):∀ b,b<wr.heap.size->b≠q->(ρ b=0\/9<=ρ b)->w4.heap[b]?=wr.heap[b]?/\upd (upd ρ q 0) g4 9 b=ρ b:=by
 obtain⟨b1,b2,b3,b4,b5,b6⟩:=h.bk.grow h.rq h.ql h.row ho4 hlt hch;intro b hb i h9;refine⟨?_,b6 b hb i⟩;rcases b5 b hb i with e|⟨e1,e2⟩
 .exact e
 .omega
end
structure Wa (w wr:World) (ρ:Nat->Nat) (v:Value) (n:Nat) (xs:List Value):Prop where
 own:wr.ownsRow 0 4 1 v n xs
 rol:∀ b,v.ownBlock=some b->ρ b=10/\w.heap.size<=b
def sH {e:TypeId} (h:w.ownsRow base e size v n xs) (hb:∀ b,v.ownBlock=some b->w'.heap[b]?=w.heap[b]?):w'.ownsRow base e size v n xs:=by
 refine⟨h.1,?_⟩;rcases h.2 with q|⟨g,cap,i,rfl,h1,h2,r⟩
 .exact .inl q
 .exact .inr ⟨g,cap,i,rfl,h1,(hb g rfl).trans h2,r⟩
def Wa.far (h:Wa w wr ρ v n xs) (hf:∀ b,b<wr.heap.size->ρ b=10->w'.heap[b]?=wr.heap[b]?/\ρ' b=ρ b):Wa w w' ρ' v n xs:=
 ⟨sH h.own λb hb=>(hf b (h.own.lt b hb).2 (h.rol b hb).1).1,λb hb=>by rw[(hf b (h.own.lt b hb).2 (h.rol b hb).1).2];exact h.rol b hb⟩
section
variable {X:World->Prop}{B:Nat}{w wr w4:World}{g:Nat}{ρ0:Nat->Nat}{N:Int}{dB dF:Bd}{q0 n:Nat}{e:TypeId}{xs:List Value}{ρ:Nat->Nat}{vs:Nat->Value}{q cap:Nat}
def IJ.own (h:IJ X B w wr g ρ0 N dB dF q0 n e xs ρ vs q cap)  (hw:Wa w wr ρ v k ys) (ho:w4.ownsRow 0 4 1 (.slice (some ⟨g4,0,none⟩) (k+1) c4) (k+1) zs) (hlt:g4<w4.heap.size)
  (hch:(v.ownBlock=some g4/\wr.grownBy w4 (some g4))\/(g4=wr.heap.size/\wr.grownBy w4 none)) :
  IJ X B w w4 g ρ0 N dB dF q0 n e xs (upd ρ g4 10) vs q cap/\Wa w w4 (upd ρ g4 10) (.slice (some ⟨g4,0,none⟩) (k+1) c4) (k+1) zs/\w4.heap[q]?=wr.heap[q]?:=by
 have D:=h.bk.B_le;have l:ρ g4=10/\w.heap.size<=g4\/wr.heap.size<=g4:=by
  rcases hch with⟨e,_⟩|⟨e,_⟩
  .exact .inl (hw.rol _ e)
  .exact .inr ω
 obtain⟨r,hr,p⟩:∃ r,(r=some g4/\ρ g4=10\/r=none)/\wr.grownBy w4 r:=by
  rcases hch with⟨e,q⟩|⟨_,q⟩
  .exact⟨_,.inl ⟨rfl,(hw.rol _ e).1⟩,q⟩
  .exact⟨_,.inr rfl,q⟩
 have x:∀ b,b<wr.heap.size->b≠g4->w4.heap[b]?=wr.heap[b]?:=λb hb s=>p.block b hb (by
  rcases hr with⟨rfl,_⟩|rfl
  .simpa using s
  .simp)
 have y:q≠g4:=by
  rintro rfl;have:=h.rq;have:=h.ql;rcases l with e|e<;>omega
 have E:=h.sz;refine⟨⟨?_,?_,by rw[upd_ne _ _ y];exact h.rq,Zd h.ql p.size,h.row.of_block (x q h.ql y),h.bl.trans (Below.grown ZB p D λb e=>?_),Zc h.sz p.size,λb hb h9 s=>?_⟩,⟨ho,λb hb=>?_⟩,x q h.ql y⟩
 .refine(h.bk.away p (λb e=>?_)).role (λb h1 h2=>?_) (λb hb=>?_) (λb hb=>?_)
  .rcases hr with⟨rfl,A⟩|rfl
   .injection e with e;subst e;omega
   .simp at e
  .rw[upd_ne _ _ (by rintro rfl;rcases l with q|q<;>first|omega|(have:=h.bk.new _ q;omega))]
  .rw[upd_ne _ _ ω];exact h.bk.new b (Zc p.size hb)
  .by_cases e:b=g4
   .subst e;rcases l with q|q
    .exact h.bk.lo b ω
    .omega
   .rw[upd_ne _ _ e] at hb;exact h.bk.lo b hb
 .refine h.fc.to λw'' o=>Off.comp p.size (λb hb hr0=>?_) (λi hi=>⟨cell_of_block (x q h.ql y) _,.inl ⟨rfl,hi⟩⟩) o
  have s:b≠g4:=by
   rintro rfl;rcases l with q|q<;>omega
  exact⟨x b hb s,(upd_ne _ _ s).trans hr0⟩
 .rcases hr with⟨rfl,A⟩|rfl
  .injection e with e;subst e;exact h.bk.lo g4 ω
  .simp at e
 .obtain⟨e1,e2,e3⟩:=h.oth b hb h9 s;have z:b≠g4:=by rcases l with q|q<;>omega
  exact⟨(x b ω z).trans e1,(upd_ne _ _ z).trans e2,e3⟩
 .simp[Value.ownBlock] at hb;subst hb;refine⟨upd_same _ _ _,?_⟩;rcases l with q|q<;>omega
def IJ.setq (h:IJ X B w wr g ρ0 N dB dF q0 0 e [] ρ vs q 0) (k:Nat) (v:Value):IJ X B w (wr.setCell ⟨q,k,none⟩ v) g ρ0 N dB dF q0 0 e [] ρ vs q 0:=by
 have hs:(wr.setCell ⟨q,k,none⟩ v).heap.size=wr.heap.size:=by simp[World.setCell]
 have l:=h.bk.lo q (η h.rq);refine⟨h.bk.away (r:=some q) (je _ _ _ _) (λb e=>by injection e with e;subst e;have:=h.rq;omega),h.fc.to λw'' o=>?_,h.rq,by rw[hs];exact h.ql,⟨rfl,λj u hu=>by simp at hu,.inl rfl⟩,h.bl.setCell (by simpa using l) _,by rw[hs];exact h.sz,λb hb h9 hne=>?_⟩
 .exact Off.comp (by rw[hs];exact zq) (λb hb' hr=>⟨bC (by rintro rfl;have:=h.rq;omega),hr⟩) (λi hi=>ω) o
 .obtain⟨e1,e2,e3⟩:=h.oth b hb h9 hne;exact⟨(bC e3).trans e1,e2,e3⟩
def IJ.begin {d:Bd} (hb:Bk B w g ρ N vs d) (hf:jq X ρ 0 0 w d) (hq:ρ q=9) (hql:q<w.heap.size):IJ X B w w g ρ N d d q 0 e [] ρ vs q 0:=
 ⟨hb,hf.to λw'' o=>⟨o.size,o.block,λi hi=>ω⟩,hq,hql,⟨rfl,λj u hu=>by simp at hu,.inl rfl⟩,ZB,zq,λb _ _ hne=>⟨rfl,rfl,hne⟩⟩
def IJ.take (h:IJ X B w wr g ρ0 N dB dF q0 0 e [] ρ vs q 0)  (hl:Ba wr e q n n xs):IJ X B w wr g ρ0 N dB dF q0 n e xs ρ vs q n:=
 ⟨h.bk,h.fc.to λw'' o=>⟨o.size,o.block,λi hi=>ω⟩,h.rq,h.ql,hl,h.bl,h.sz,h.oth⟩
end
def Ow (ρ:Nat->Nat) (o:Nat) (C:Obj) (w:World):Prop:=ρ o=0/\o<w.heap.size/\w.heap[o]?=some C
section
variable {X:World->Prop}{B:Nat}{w wr wa w4:World}{g:Nat}{ρ0:Nat->Nat}{N:Int}{dB dF:Bd}{q0 n:Nat}{e:TypeId}{xs:List Value}{ρ:Nat->Nat}{vs:Nat->Value}{q cap:Nat}
def Wa.below (hw:Wa w wr ρ v m ys) (ha:Below wr.heap.size wr wa):Wa w wa ρ v m ys:=hw.far λb hb _=>⟨ha.block b hb,rfl⟩
def Ow.below (h:Ow ρ o C wr) (ha:Below wr.heap.size wr wa):Ow ρ o C wa:=⟨h.1,Zd h.2.1 ha.size,(ha.block o h.2.1).trans h.2.2⟩
def IJ.put2 (h:IJ X B w wr g ρ0 N dB dF q0 n e xs ρ vs q cap) (k:Nat) (hk:0<k/\k<7) {dB':Bd} (hX:∀ j,j≠k->jU dB' j=jU dB j/\gi dB' j=gi dB j) (hn':gi dB' k=n') (hx':jU dB' k=xs')
  (hown:w4.ownsRow 0 (El k) (Em k) (.slice (some ⟨g4,0,none⟩) n' c4) n' xs') (hlt:g4<w4.heap.size)
  (hch:((vs k).ownBlock=some g4/\wr.grownBy w4 (some g4))\/(g4=wr.heap.size/\wr.grownBy w4 none))  (hw:Wa w wr ρ v m ys) (ho:Ow ρ o C wr) :
  Wa w (w4.setCell ⟨g,lD k,none⟩ (.slice (some ⟨g4,0,none⟩) n' c4)) (upd ρ g4 (k+2)) v m ys/\Ow (upd ρ g4 (k+2)) o C (w4.setCell ⟨g,lD k,none⟩ (.slice (some ⟨g4,0,none⟩) n' c4)):=by
 have i:=h.put_far k hk hX hn' hx' hown hlt hch;refine⟨hw.far λb hb h10=>i b hb (.inr ω),?_⟩;obtain⟨e1,e2⟩:=i o ho.2.1 (.inl ho.1);refine⟨e2.trans ho.1,?_,e1.trans ho.2.2⟩;rw[dZ];have:=ho.2.1;rcases hch with⟨_,q⟩|⟨_,q⟩<;>exact Zd this q.size
def IJ.grow2 (h:IJ X B w wr g ρ0 N dB dF q0 n e xs ρ vs q cap)  (ho4:w4.ownsRow 0 e 1 (.slice (some ⟨g4,0,none⟩) (n+1) cap4) (n+1) (xs++ys)) (hlt:g4<w4.heap.size)
  (hch:(some q=some g4/\wr.grownBy w4 (some g4))\/(g4=wr.heap.size/\wr.grownBy w4 none))  (hw:Wa w wr ρ v m zs):Wa w w4 (upd (upd ρ q 0) g4 9) v m zs:=
 hw.far λb hb h10=>h.grow_far ho4 hlt hch b hb (by rintro rfl;have:=h.rq;omega) (.inr ω)
def Ow.kp {α:Type}{enc:α->Value}{l:List α}{t:TypeId} (h:Ow ρ o (.cells (l.map enc).toArray t (0,0)) w):Kp ρ q n w λw'=>aS enc w' (.slice (some ⟨o,0,none⟩) l.length c) l:=by
 intro w' k;refine .inr ⟨o,0,c,rfl,λj hj=>?_⟩;have e:=(k.block o h.2.1 h.1).trans h.2.2;rw[Nat.zero_add];simp[cell?,e,hj]
end
def Ai (n:Nat) (z:Value) (cs:List Value) (h:cs.length=n):splice (replicate n z) 0 cs=cs:=by
 simp[splice,h]
open Go.RowKit
def DB {e:TypeId} (h:w.ownsRow base e size v n xs):∃ sp cp,v=.slice sp n cp:=by
 rcases h.2 with⟨rfl,rfl⟩|⟨g,cap,i,rfl,_⟩
 .simp_all
 .exact⟨_,_,rfl⟩
def IH (n:Nat) (z:Value) (hz:z.cells=#[z]):jp n z=(replicate n z).toArray:=by
 apply Array.ext
 .simp[jp,madeCells,hz]
 .intro i h1 h2;have:=mJ hz n i (by simpa using h2);rw[Array.getElem?_eq_getElem h1] at this
  simpa using this
def KC (L:List Bool):∀ v∈L.map eB,v.oneCell'=true:=by
 intro v hv;obtain⟨b,_,rfl⟩:=mem_map.1 hv;rfl
def II:(prog.info? 4).map (·.size)=some 1:=by
 obtain⟨i,h1,h2,h3,h4⟩:=info_parts Tryz.infoBo;rw[h1];simp[h3]
variable (a k) in
def IK (h:k<a.length):((a.map (!·)).take k).map eB++[eB (!a[k])]=((a.map (!·)).take (k+1)).map eB:=by
 rw[take_add_one,map_append];simp[h]
variable (X B w g ρ N vs) in
def DC (d:Bd) (q0 n:Nat) (a:List Bool) (hb:Bk B w g ρ N vs d) (hf:jq X ρ 0 0 w d) (hq:ρ q0=9) (hql:q0<w.heap.size) (hal:a.length=n) (hn:Nw w q0 n (λj=>eB (a[j]?.getD false)))
  (hn2:n<=1048576) (hN1:0<=N) (hN2:N<1000000000000) (hs:d.bs.length<=1000000000000) :
  Calls prog 54 #[.pointer (some ⟨g,0,none⟩),.slice (some ⟨q0,0,none⟩) n n] w λe w'=>e=.returned (.tuple #[])/\∃ ρ' h es us,Bk B w' g ρ' N h {d with bs:=d.bs++es,ws:=d.ws++us}/\jq X ρ' 0 0 w' {d with bs:=d.bs++es,ws:=d.ws++us}/\es.length=4/\us.length=4/\Below B w w'/\w.heap.size<=w'.heap.size/\∀ b,b<w.heap.size->9<=ρ b->b≠q0->w'.heap[b]?=w.heap[b]?/\ρ' b=ρ b:=by
 have HJ:Hid (IJ X B w w g ρ N d d q0 0 4 [] ρ vs q0 0):=IJ.begin hb hf hq hql;have p:Hid (Nw w q0 n (λj=>if j<0 then eB (!(a[j]?.getD false)) else eB (a[j]?.getD false))):=hn.congr (λj _=>χ);have P:Hid (a.length=n):=hal;have f2:Hid (d.ws.length=d.bs.length):=hf.lB;have e9:=hb.cn;obtain⟨i1,b3,W,e0,c9⟩:=info_parts Tryz.infoLB;obtain⟨i2,I,K,M,Q⟩:=info_parts Tryz.infoBo;have f8:=λk h1 h2 w=>dv underlying30 I K M Q k h1 h2 w
 clear hb hf hn hal e9
 go_enter func54,ntmps54
 go_wp2
 go_loopw [4,5] (λwv i wr=>∃(k:Nat) (ρ':Nat->Nat),i=.int .i64 k/\k<=n/\IJ X B w wr g ρ N d d q0 0 4 [] ρ' vs q0 0/\Nw wr q0 n (λj=>if j<k then eB (!(a[j]?.getD false)) else eB (a[j]?.getD false))/\Wa w wr ρ' wv k (((a.map (!·)).take k).map eB)) (λ_ i _=>n-(intOf i).toNat)
 case atStart=>exact⟨0,ρ,rfl,Zk _,HJ.out,p.out,Zn _ _ _ _,λb hb=>by simp[Value.ownBlock] at hb⟩
 case round=>
  obtain⟨k,ρ',rfl,hk,hj,a8,s⟩:=hrel;clear HJ p;have HJ:Hid (IJ X B w wr g ρ N d d q0 0 4 [] ρ' vs q0 0):=hj;have p:Hid (Nw wr q0 n (λj=>if j<k then eB (!(a[j]?.getD false)) else eB (a[j]?.getD false))):=a8;have E:Hid (Wa w wr ρ' u4 k (((a.map (!·)).take k).map eB)):=s;clear hj a8 s
  by_cases hlt:k<n
  .have e3:(k:Int)<n:=ω;have T:k<a.length:=by rw[P.out];exact hlt
   have c1:=p.out.c k hlt;have f1:=p.out.fz k;simp only[Nat.lt_irrefl,if_false,Zj T,Option.getD_some] at c1;obtain⟨x,hx⟩:=zx (a[k]);rw[<-hx] at c1;have HX:Hid (x=a[k]):=hx;have d4:Hid (Wa w (wr.setCell ⟨q0,k,none⟩ (.bool !x)) ρ' u4 k (((a.map (!·)).take k).map eB)):=E.out.far (λb hb W=>⟨bC (by rintro rfl;have:=HJ.out.rq;omega),rfl⟩);have h4:Hid (IJ X B w (wr.setCell ⟨q0,k,none⟩ (.bool !x)) g ρ N d d q0 0 4 [] ρ' vs q0 0):=HJ.out.setq k _;clear hx;go_wp2_with (at_builtin;refine aD _ rfl (.tmp 23) (.tmp 28) 30 rfl 0 4 i2 (.bool false) 1 1 underlying30 I K M Q rfl Zr u4 k (((a.map (!·)).take k).map eB) rfl (Zm d4.out.own _) ⟨wr.heap.size,0,none⟩ 1 1 [.bool !x] rfl rfl (kN _ _ _ (dZ _ _ _)) Zt ω Zs ω (Zk _) _ rfl ?_;intro g4 k4 w4 d9 b8 g8;obtain⟨c8,b6,b1⟩:=(h4.out.below ZA).own (d4.out.far (w':=(wr.setCell ⟨q0,k,none⟩ (.bool !x)).alloc (.cells #[.bool !x] 4)) (ρ':=ρ') (λb hb _=>⟨Ze _ _ _ hb,rfl⟩)) d9 g8 b8;have h8:Hid (IJ X B w w4 g ρ N d d q0 0 4 [] (upd ρ' g4 10) vs q0 0):=c8;have f0:Hid (Wa w w4 (upd ρ' g4 10) (.slice (some ⟨g4,0,none⟩) (k+1) k4) (k+1) ((((a.map (!·)).take k).map eB)++[.bool !x])):=b6;have f3:Hid (Nw w4 q0 n (λj=>if j=k then .bool !x else if j<k then eB (!(a[j]?.getD false)) else eB (a[j]?.getD false))):=(p.out.set k hlt _).of_block (b1.trans (Ze _ _ _ (by rw[dZ];exact HJ.out.ql)));clear d9 b8 c8 b6 b1)
   go_roundw
   case rel=>
    refine⟨k+1,upd ρ' g4 10,π,ω,h8.out,f3.out.congr (λj hj=>?_),?_⟩
    .by_cases e1:j=k
     .subst e1;rw[Zi rfl,Zi ω,HX.out];simp[T]
     .rw[Zh e1]
      by_cases e2:j<k
      .rw[Zi e2,Zi ω]
      .rw[Zh e2,Zh ω]
    .have:=f0.out;rw[HX.out,IK a k T] at this;exact this
   case measure=>simp[intOf]<;>omega
  .have d3:¬(k:Int)<n:=ω;have e5:k=n:=ω;subst e5;obtain⟨L,hL⟩:=zx (a.map (!·));have r:L.length=k:=by rw[hL,length_map];exact P.out
   have J:Hid (Wa w wr ρ' u4 k (L.map eB)):=by
    have:=E.out;rw[<-hL,take_of_length_le ω] at this;exact this
   have y:Hid (IJ X B w wr g ρ N d d q0 k 4 (L.map eB) ρ' vs q0 k):=HJ.out.take ⟨by simp[r],λj u hu=>by
    obtain⟨hj,e⟩:=List.getElem?_eq_some_iff.1 hu;have V:j<k:=by simpa [r] using hj
    rw[p.out.c j V,Zi V,<-e];have g7:j<a.length:=by rw[P.out];exact V
    simp[hL,g7],.inl rfl⟩
   clear E HJ p hL P;go_wp2
   go_loopw [1,4,6,7,8] (λl wv i _ _ wr=>∃(kk:Nat) (ρ':Nat->Nat) (h:Nat->Value) (q cap:Nat) (L:List Bool) (es us:List Value),l=.slice (some ⟨q,0,none⟩) (k+kk) cap/\i=.int .i64 kk/\kk<=4/\L.length=k+kk/\es.length=kk/\us.length=kk/\IJ X B w wr g ρ N {d with bs:=d.bs++es,ws:=d.ws++us} {d with bs:=d.bs++es,ws:=d.ws++us} q0 (k+kk) 4 (L.map eB) ρ' h q cap/\Wa w wr ρ' wv (k+kk) (L.map eB)) (λ_ _ i _ _ _=>4-(intOf i).toNat)
   case atStart=>exact⟨0,ρ',vs,q0,k,L,[],[],rfl,rfl,ω,r,rfl,rfl,by simpa using y.out,J.out⟩
   case round=>
    clear y J d3 hk r;obtain⟨kk,ρ',h,q,cap,L,es,us,rfl,rfl,i7,r,d0,d8,hj,s⟩:=hrel;obtain⟨sp,cp,g6⟩:=DB s.own;subst g6;obtain⟨nn,a6⟩:=zx (k+kk);rw[<-a6] at hj s r ⊢;have h3:Hid (nn=k+kk):=a6;have z:Hid (L.length=nn):=r;have i0:nn<=1048580:=ω;have HJ:Hid (IJ X B w wr g ρ N {d with bs:=d.bs++es,ws:=d.ws++us} {d with bs:=d.bs++es,ws:=d.ws++us} q0 nn 4 (L.map eB) ρ' h q cap):=hj;have E:Hid (Wa w wr ρ' (.slice sp nn cp) nn (L.map eB)):=s;have g9:Hid (ρ' wr.heap.size=0):=hj.bk.new _ zq;have f7:Hid (0<(L.map eB).length->∃ ad,sp=some ad/\∀ j v,(L.map eB)[j]?=some v->(wr.alloc (.cells (jp nn (.bool false)) 4)).cell? (ad.add j)=some v):=λhp=>by
     have ho:=s.own;rcases ho.2 with⟨e,h0⟩|⟨gw,cw,i6,e,_,i5,_⟩
     .rw[length_map,r] at hp;omega
     .injection e with e;refine⟨_,e,λj v hv=>?_⟩;have h1:=(Ba.of_owns _ (by rw[e] at ho;exact ho)).2.1 j v hv;rw[yJ];exact cell_below ZA h1
    obtain⟨v3,d2⟩:=zx (h 3);obtain⟨v4,b5⟩:=zx (h 4);obtain⟨nB,a5⟩:=zx ((d.bs++es).length);obtain⟨nW,U⟩:=zx ((d.ws++us).length);have h9:nB<=1000000000004:=by rw[a5,length_append];omega
    have i4:nW<=1000000000004:=by rw[U,length_append,f2.out];omega
    have a3:Hid (nB=(d.bs++es).length):=a5;have p:Hid (nW=(d.ws++us).length):=U;have G:Hid (v3=h 3):=d2;have O:Hid (v4=h 4):=b5;have b7:Hid (es.length=kk/\us.length=kk):=⟨d0,d8⟩
    have i3:=f8 nn ω Zs;clear a6 r hj s d2 b5 a5 U d0 d8
    by_cases hlt:kk<4
    .have e3:(kk:Int)<4:=ω;go_wp2_with (first|(at_builtin;refine aD _ rfl (.tmp 72) (.tmp 74) 30 rfl 0 4 i2 (.bool false) 1 1 underlying30 I K M Q rfl Zr (.slice sp nn cp) nn (L.map eB) rfl (Zm e4.out.own _) ⟨w8.heap.size,0,none⟩ 1 1 [.bool ((N+(kk:Int))%2==0)] rfl rfl (eO _ _ _) Zt ω Zs ω (Zk _) _ rfl ?_;intro g5 k5 d5 a7 d7 h5;obtain⟨hD,d6,_⟩:=(HC.out.below ZA).own (zs:=(L++[((N+(kk:Int))%2==0)]).map eB) (e4.out.below ZA) (by simpa using a7) h5 d7;have HD:Hid (IJ X B w d5 g ρ N {d with bs:=d.bs++es++[.slice (some ⟨q,0,none⟩) nn cap],ws:=d.ws++us++[.slice (some ⟨wr.heap.size,0,none⟩) nn nn]} {d with bs:=d.bs++es++[.slice (some ⟨q,0,none⟩) nn cap],ws:=d.ws++us++[.slice (some ⟨wr.heap.size,0,none⟩) nn nn]} q0 (nn+1) 4 ((L++[((N+(kk:Int))%2==0)]).map eB) (upd (upd (upd (upd (upd ρ' g1 5) g2 6) q 0) g3 9) g5 10) (upd (upd h 3 (.slice (some ⟨g1,0,none⟩) (nB+1) k1)) 4 (.slice (some ⟨g2,0,none⟩) (nW+1) k2)) g3 k3):=hD;have e7:Hid (Wa w d5 (upd (upd (upd (upd (upd ρ' g1 5) g2 6) q 0) g3 9) g5 10) (.slice (some ⟨g5,0,none⟩) (nn+1) k5) (nn+1) ((L++[((N+(kk:Int))%2==0)]).map eB)):=d6;clear a7 d7 hD d6)|(at_builtin;refine fH _ rfl (.tmp 68) (.tmp 70) 30 rfl 4 i2 (.bool false) 1 underlying30 I K M Q rfl q nn cap (L.map eB) rfl (HB.out.row.of_block (Ze _ _ _ HB.out.ql)) ⟨w6.heap.size,0,none⟩ 1 (.bool ((N+(kk:Int))%2==0)) rfl (qR _ _ _ (dZ _ _ _)) rfl Zs ω ?_;intro g3 k3 w8 a4 a1 c3;have HC:Hid (IJ X B w w8 g ρ N {d with bs:=d.bs++es++[.slice (some ⟨q,0,none⟩) nn cap],ws:=d.ws++us++[.slice (some ⟨wr.heap.size,0,none⟩) nn nn]} {d with bs:=d.bs++es++[.slice (some ⟨q,0,none⟩) nn cap],ws:=d.ws++us++[.slice (some ⟨wr.heap.size,0,none⟩) nn nn]} q0 (nn+1) 4 ((L++[((N+(kk:Int))%2==0)]).map eB) (upd (upd (upd (upd ρ' g1 5) g2 6) q 0) g3 9) (upd (upd h 3 (.slice (some ⟨g1,0,none⟩) (nB+1) k1)) 4 (.slice (some ⟨g2,0,none⟩) (nW+1) k2)) g3 k3):=(HB.out.below ZA).grow χ a4 c3 a1;have e4:Hid (Wa w w8 (upd (upd (upd (upd ρ' g1 5) g2 6) q 0) g3 9) (.slice sp nn cp) nn (L.map eB)):=(HB.out.below ZA).grow2 a4 c3 a1 (h7.out.below ZA);clear a4 a1)|(at_builtin;refine aD _ rfl (.tmp 54) (.tmp 56) 41 rfl 0 30 i1 (.slice none 0 0) 1 24 underlying41 b3 W e0 c9 rfl Zr v4 nW (d.ws++us) rfl (Zm g0.out _) ⟨w4.heap.size,0,none⟩ 1 1 [.slice (some ⟨wr.heap.size,0,none⟩) nn nn] rfl rfl (kN _ _ _ (dZ _ _ _)) Zt ω Zs ω (Zk _) _ rfl ?_;intro g2 k2 w6 Z c2 c7;have hX:=(λj hj=>by match j with|0=>exact⟨rfl,rfl⟩|1=>exact⟨rfl,rfl⟩|2=>exact⟨rfl,rfl⟩|3=>exact⟨rfl,rfl⟩|4=>exact absurd rfl hj|5=>exact⟨rfl,rfl⟩|6=>exact⟨rfl,rfl⟩|_+7=>exact⟨rfl,rfl⟩:∀ j,j≠4->jU {d with bs:=d.bs++es++[.slice (some ⟨q,0,none⟩) nn cap],ws:=d.ws++us++[.slice (some ⟨wr.heap.size,0,none⟩) nn nn]} j=jU {d with bs:=d.bs++es++[.slice (some ⟨q,0,none⟩) nn cap],ws:=d.ws++us} j/\gi {d with bs:=d.bs++es++[.slice (some ⟨q,0,none⟩) nn cap],ws:=d.ws++us++[.slice (some ⟨wr.heap.size,0,none⟩) nn nn]} j=gi {d with bs:=d.bs++es++[.slice (some ⟨q,0,none⟩) nn cap],ws:=d.ws++us} j);have A:=c2;rw[show v4=upd h 3 (.slice (some ⟨g1,0,none⟩) (nB+1) k1) 4 by rw[upd_ne _ _ ω];exact O.out] at A;obtain⟨F,c5,f5,_,cN⟩:=(HA.out.below ZA).put 4 ω hX (n':=nW+1) (xs':=d.ws++us++[.slice (some ⟨wr.heap.size,0,none⟩) nn nn]) (by rw[p.out];simp[gi];omega) rfl Z c7 A;obtain⟨b9,b2⟩:=(HA.out.below ZA).put2 4 ω hX (n':=nW+1) (xs':=d.ws++us++[.slice (some ⟨wr.heap.size,0,none⟩) nn nn]) (by rw[p.out];simp[gi];omega) rfl Z c7 A (f9.out.below ZA) (e6.out.below ZA);rw[upd_ne _ _ ω,<-O.out] at c5;have HB:Hid (IJ X B w (w6.setCell ⟨g,4,none⟩ (.slice (some ⟨g2,0,none⟩) (nW+1) k2)) g ρ N {d with bs:=d.bs++es++[.slice (some ⟨q,0,none⟩) nn cap],ws:=d.ws++us++[.slice (some ⟨wr.heap.size,0,none⟩) nn nn]} {d with bs:=d.bs++es++[.slice (some ⟨q,0,none⟩) nn cap],ws:=d.ws++us++[.slice (some ⟨wr.heap.size,0,none⟩) nn nn]} q0 nn 4 (L.map eB) (upd (upd ρ' g1 5) g2 6) (upd (upd h 3 (.slice (some ⟨g1,0,none⟩) (nB+1) k1)) 4 (.slice (some ⟨g2,0,none⟩) (nW+1) k2)) q cap):=F.fact (F.fc.addB (l:=L) (by rw[z.out];unfold maxLen;omega) (λw' o=>⟨Ah z.out F.row w' o,by have:=b2.kp (q:=q) (n:=nn) (c:=nn) w' o;rw[z.out] at this;exact this⟩));have h7:Hid (Wa w (w6.setCell ⟨g,4,none⟩ (.slice (some ⟨g2,0,none⟩) (nW+1) k2)) (upd (upd ρ' g1 5) g2 6) (.slice sp nn cp) nn (L.map eB)):=b9;simp only[lD] at c5 f5;clear Z c2 A F b9 b2 hX)|(at_builtin;refine aD _ rfl (.tmp 44) (.tmp 46) 41 rfl 0 30 i1 (.slice none 0 0) 1 24 underlying41 b3 W e0 c9 rfl Zr v3 nB (d.bs++es) rfl (Zm h6.out _) ⟨w2.heap.size,0,none⟩ 1 1 [.slice (some ⟨q,0,none⟩) nn cap] rfl rfl (eO _ _ _) Zt ω Zs ω (Zk _) _ rfl ?_;intro g1 k1 w4 a2 S b0;have hX:=(λj hj=>by match j with|0=>exact⟨rfl,rfl⟩|1=>exact⟨rfl,rfl⟩|2=>exact⟨rfl,rfl⟩|3=>exact absurd rfl hj|4=>exact⟨rfl,rfl⟩|5=>exact⟨rfl,rfl⟩|6=>exact⟨rfl,rfl⟩|_+7=>exact⟨rfl,rfl⟩:∀ j,j≠3->jU {d with bs:=d.bs++es++[.slice (some ⟨q,0,none⟩) nn cap],ws:=d.ws++us} j=jU {d with bs:=d.bs++es,ws:=d.ws++us} j/\gi {d with bs:=d.bs++es++[.slice (some ⟨q,0,none⟩) nn cap],ws:=d.ws++us} j=gi {d with bs:=d.bs++es,ws:=d.ws++us} j);rw[G.out] at S;obtain⟨c6,b4,f4,cc,_⟩:=(y.out.below ZA).put 3 ω hX (n':=nB+1) (xs':=d.bs++es++[.slice (some ⟨q,0,none⟩) nn cap]) (by rw[a3.out];simp[gi];omega) rfl a2 b0 S;obtain⟨a9,d1⟩:=(y.out.below ZA).put2 3 ω hX (n':=nB+1) (xs':=d.bs++es++[.slice (some ⟨q,0,none⟩) nn cap]) (by rw[a3.out];simp[gi];omega) rfl a2 b0 S (J.out.below ZA) (f6.out.below ZA);rw[<-G.out] at b4;have c0:=cc 4 ω ω;rw[<-O.out] at c0;have HA:Hid (IJ X B w (w4.setCell ⟨g,3,none⟩ (.slice (some ⟨g1,0,none⟩) (nB+1) k1)) g ρ N {d with bs:=d.bs++es++[.slice (some ⟨q,0,none⟩) nn cap],ws:=d.ws++us} {d with bs:=d.bs++es,ws:=d.ws++us} q0 nn 4 (L.map eB) (upd ρ' g1 5) (upd h 3 (.slice (some ⟨g1,0,none⟩) (nB+1) k1)) q cap):=c6;have f9:Hid (Wa w (w4.setCell ⟨g,3,none⟩ (.slice (some ⟨g1,0,none⟩) (nB+1) k1)) (upd ρ' g1 5) (.slice sp nn cp) nn (L.map eB)):=a9;have e6:Hid (Ow (upd ρ' g1 5) wr.heap.size (.cells (L.map eB).toArray 4 (0,0)) (w4.setCell ⟨g,3,none⟩ (.slice (some ⟨g1,0,none⟩) (nB+1) k1))):=d1;have g0:Hid ((w4.setCell ⟨g,3,none⟩ (.slice (some ⟨g1,0,none⟩) (nB+1) k1)).ownsRow 0 30 1 v4 nW (d.ws++us)):=(by show ownsRow _ _ _ _ _ _ _;rw[O.out,p.out];exact HA.out.bk.own 4 ω);simp only[lD] at b4 f4 c0;clear a2 S c6 a9 d1 cc hX)|(refine wpList_copy_splice rfl (.tmp 37) (.tmp 38) 30 30 rfl 4 underlying30 II (some ⟨wr.heap.size,0,none⟩) sp nn nn nn cp rfl rfl wr.heap.size 0 (replicate nn (.bool false)) 4 (by rw[heap_alloc_new,IH _ _ rfl]) (L.map eB) (by rw[length_map,z.out];exact(Nat.min_self _).symm) (λhp=>⟨rfl,f7.out hp⟩) (by simp[z.out]) (KC L) wr.heap.size wr ZA zq ?_;intro w2 R Y;rw[Ai _ _ _ (by rw[length_map];exact z.out)] at R;have y:Hid (IJ X B w w2 g ρ N {d with bs:=d.bs++es,ws:=d.ws++us} {d with bs:=d.bs++es,ws:=d.ws++us} q0 nn 4 (L.map eB) ρ' h q cap):=HJ.out.below Y;have J:Hid (Wa w w2 ρ' (.slice sp nn cp) nn (L.map eB)):=E.out.below Y;have f6:Hid (Ow ρ' wr.heap.size (.cells (L.map eB).toArray 4 (0,0)) w2):=⟨g9.out,(ZC R.out),R.out⟩;have h6:Hid (w2.ownsRow 0 30 1 v3 nB (d.bs++es)):=(by show ownsRow _ _ _ _ _ _ _;rw[G.out,a3.out];exact y.out.bk.own 3 ω);have c4:=y.out.bk.cl 3 ω;rw[<-G.out] at c4;simp only[lD] at c4;clear R Y))
     go_roundw
     case rel=>
      have hD:=HD.out;have hW:=e7.out;have D:nn+1=k+(kk+1):=by have:=h3.out;omega
      have hE:=b7.out;rw[append_assoc,append_assoc,D] at hD;rw[D] at hW;exact⟨kk+1,_,_,g3,k3,_,_,_,by rw[D],π,ω,by rw[length_append,z.out,<-D];rfl,by simp[hE.1],by simp[hE.2],hD,by rw[D];exact hW⟩
     case measure=>simp[intOf]<;>omega
    .have d3:¬(kk:Int)<4:=ω;go_wp2
     refine bodyPost_end (results_none rfl _ _ _) rfl ?_;obtain⟨r1,r2,r3⟩:=HJ.out.rest;have:=b7.out;exact⟨rfl,_,_,es,us,r1,r2,ω,ω,HJ.out.bl,HJ.out.sz,r3⟩
def Tryz.infoLLI:(prog.info? 31).map (λi=>(i.zero,i.size,i.bytes))=some (some (.slice none 0 0),1,24):=κ
def Lq (d d':Bd) (h1:d'.ls=d.ls) (h2:d'.ms=d.ms) (h3:d'.bs=d.bs) (h4:d'.ws=d.ws) (h5:d'.rs=d.rs):∀ j,j≠6->jU d' j=jU d j/\gi d' j=gi d j:=by
 intro j hj
 match j with
 |0=>exact⟨rfl,rfl⟩
 |1=>simp[jU,gi,h1]
 |2=>simp[jU,gi,h2]
 |3=>simp[jU,gi,h3]
 |4=>simp[jU,gi,h4]
 |5=>simp[jU,gi,h5]
 |6=>exact absurd rfl hj
 |_+7=>exact⟨rfl,rfl⟩
def wrap64 (z:Int) (h1:-9223372036854775808<=z) (h2:z<=9223372036854775807):IntKind.i64.wrap z=z:=by
 rw[IntKind.wrap_i64];omega
structure TK (X:World->Prop) (B:Nat) (w wr:World) (g:Nat) (ρ:Nat->Nat) (N:Int) (d:Bd) (gs:List Nat) (k:Nat) (ρ1:Nat->Nat) (vs1:Nat->Value) (d1:Bd):Prop where
 bk:Bk B wr g ρ1 (N+k) vs1 d1
 fc:jq X ρ1 0 0 wr d1
 ll:d1.ls.length=d.ls.length+4*k
 lb:d1.bs.length=d.bs.length
 lr:d1.rs.length=d.rs.length
 bl:Below B w wr
 sz:w.heap.size<=wr.heap.size
 oth:∀ b,b<w.heap.size->9<=ρ b->(∀ j (h:j<gs.length),j<k->b≠gs[j])->wr.heap[b]?=w.heap[b]?/\ρ1 b=ρ b
section
variable {X:World->Prop}{B:Nat}{w wr wa w4:World}{g:Nat}{ρ0:Nat->Nat}{N:Int}{dB dF:Bd}{q0 n:Nat}{e:TypeId}{xs:List Value}{ρ:Nat->Nat}{vs:Nat->Value}{q cap:Nat}
def IJ.putO (h:IJ X B w wr g ρ0 N dB dF q0 n e xs ρ vs q cap) (k:Nat) (hk:0<k/\k<7) {dB':Bd} (hX:∀ j,j≠k->jU dB' j=jU dB j/\gi dB' j=gi dB j) (hn':gi dB' k=n') (hx':jU dB' k=xs')
  (hown:w4.ownsRow 0 (El k) (Em k) (.slice (some ⟨g4,0,none⟩) n' c4) n' xs') (hlt:g4<w4.heap.size)
  (hch:((vs k).ownBlock=some g4/\wr.grownBy w4 (some g4))\/(g4=wr.heap.size/\wr.grownBy w4 none))  (ho:Ow ρ o C wr) :
  Ow (upd ρ g4 (k+2)) o C (w4.setCell ⟨g,lD k,none⟩ (.slice (some ⟨g4,0,none⟩) n' c4)):=by
 obtain⟨e1,e2⟩:=(h.put_far k hk hX hn' hx' hown hlt hch) o ho.2.1 (.inl ho.1);refine⟨e2.trans ho.1,?_,e1.trans ho.2.2⟩;rw[dZ];have:=ho.2.1;rcases hch with⟨_,q⟩|⟨_,q⟩<;>exact Zd this q.size
def IJ.growO (h:IJ X B w wr g ρ0 N dB dF q0 n e xs ρ vs q cap)  (ho4:w4.ownsRow 0 e 1 (.slice (some ⟨g4,0,none⟩) (n+1) cap4) (n+1) (xs++ys)) (hlt:g4<w4.heap.size)
  (hch:(some q=some g4/\wr.grownBy w4 (some g4))\/(g4=wr.heap.size/\wr.grownBy w4 none))  (ho:Ow ρ o C wr):Ow (upd (upd ρ q 0) g4 9) o C w4:=by
 obtain⟨e1,e2⟩:=h.grow_far ho4 hlt hch o ho.2.1 (by rintro rfl;have:=h.rq;have:=ho.1;omega) (.inl ho.1);refine⟨e2.trans ho.1,?_,e1.trans ho.2.2⟩;have:=ho.2.1;rcases hch with⟨_,q⟩|⟨_,q⟩<;>exact Zd this q.size
theorem IJ.drew (h:IJ X B w wr g ρ0 N dB dF q0 n e xs ρ vs q cap):IJ X B w wr.drew g ρ0 N dB dF q0 n e xs ρ vs q cap:=h.below (ZB.drew)
end
def Bk.startN {d:Bd} (hb:Bk B w g ρ N vs d) (hf:jq X ρ 0 0 w d) (M:Int) :
  Bk B (w.setCell ⟨g,0,none⟩ (.int .i64 M)) g ρ M vs d/\jq X ρ 0 0 (w.setCell ⟨g,0,none⟩ (.int .i64 M)) d/\Below B w (w.setCell ⟨g,0,none⟩ (.int .i64 M)):=by
 have h:=hb.lo g (η hb.rg);have hs:(w.setCell ⟨g,0,none⟩ (.int .i64 M)).heap.size=w.heap.size:=by simp[World.setCell]
 refine⟨hb.num M,hf.to λw'' o=>?_,Below.setCell ZB (by simpa using h) _⟩;exact Off.comp (by rw[hs];exact zq) (λb hb' hr=>⟨bC (by rintro rfl;have:=hb.rg;omega),hr⟩) (λi hi=>ω) o
def jq.below {d:Bd} (h:jq X ρ 0 0 w d) (hb:Below w.heap.size w w'):jq X ρ 0 0 w' d:=
 h.to λw'' o=>Off.comp hb.size (λb hb' hr=>⟨hb.block b hb',hr⟩) (λi hi=>ω) o
def jq.more {d:Bd}{T:Nat} (h:jq X ρ 0 0 w d) (hT:T<w.heap.size) (hr:ρ T=0) (hc:w.heap[T]?=some C):jq (λw'=>X w'/\w'.heap[T]?=some C) ρ 0 0 w d:=
 ⟨h.lI,h.lB,h.lR,h.fI,h.fB,h.fR,λw' o=>⟨h.fX w' o,(o.block T hT hr).trans hc⟩⟩
def jq.less {X Y:World->Prop}{d:Bd} (h:jq Y ρ q lim w d) (k:∀ w',Y w'->X w'):jq X ρ q lim w d:=
 ⟨h.lI,h.lB,h.lR,h.fI,h.fB,h.fR,λw' o=>k _ (h.fX w' o)⟩
def DD (n:Nat) (v:Value):(replicate n v).map id++[v]=(replicate (n+1) v).map id:=by
 rw[replicate_succ',map_append];rfl
variable (X B w g ρ N vs) in
def Aj (d:Bd) (t:Tb) (c tA tB:Nat) (gs:List Nat) (lo n:Nat) (hb:Bk B w g ρ N vs d) (hf:jq X ρ 0 0 w d) (ht:i_ lo w t tA tB gs) (hok:jf t c) (hnt:t.next.length=n)
  (hrA:ρ tA=9) (hrB:ρ tB=9) (hrg:∀ q∈gs,ρ q=9) (hN1:0<=N) (hN2:N<100000000000) (s1:d.ls.length<=100000000000) (s2:d.bs.length<=100000000000) (s3:d.rs.length<=100000000000) :
  Calls prog 18 #[.pointer (some ⟨g,0,none⟩),tv t (.slice (some ⟨tA,0,none⟩) n n) (.slice (some ⟨tB,0,none⟩) n n)] w λe w'=>e=.returned (.tuple #[])/\∃ ρ' p d',Bk B w' g ρ' (N+n+1) p d'/\jq X ρ' 0 0 w' d'/\d'.ls.length=d.ls.length+4*n/\d'.bs.length=d.bs.length+4/\d'.rs.length=d.rs.length+4/\Below B w w':=by
 have c0:t.acc.length=n:=hok.n▸hnt;have k6:n<=200:=c0▸hok.a2;obtain⟨o1,o2,o3,o4,o5,o6⟩:=ht.o;obtain⟨C,hC⟩:∃ C:Array Value,C=#[.bool t.front,.bool t.back,.int .i64 t.start,.string (ba t.cls),.slice (some ⟨tA,0,none⟩) n n,.slice (some ⟨tB,0,none⟩) n n]:=⟨_,rfl⟩
 obtain⟨w1,G⟩:=zx (w.alloc (.cells C 33));have K:Below w.heap.size w w1:=by rw[G];exact ZA
 have j5:w1.heap.size=w.heap.size+1:=by rw[G];simp
 have hT:w1.heap[w.heap.size]?=some (.cells C 33):=by rw[G];exact Za _ _
 have y:=zh (ht.below K);have HK:Hid (TK (λw'=>X w'/\w'.heap[w.heap.size]?=some (.cells C 33)) B w1 w1 g ρ N d gs 0 ρ vs d):=
  ⟨by have:=hb.below K;simpa using this,(hf.below K).more ω (hb.new _ zq) hT,ω,rfl,rfl,ZB,zq,λb _ _ _=>⟨rfl,rfl⟩⟩
 have k9:=zh (K.mono hb.B_le);have a2:Hid (∀ w':World,w'.heap[w.heap.size]?=some (.cells C 33)->w'.cell? ⟨w.heap.size,4,none⟩=some (.slice (some ⟨tA,0,none⟩) n n)/\w'.cell? ⟨w.heap.size,5,none⟩=some (.slice (some ⟨tB,0,none⟩) n n)):=λw' h=>by
  rw[hC] at h;exact⟨by simp[cell?,h],by simp[cell?,h]⟩
 have j6:Hid (w1=w.alloc (.cells #[.bool t.front,.bool t.back,.int .i64 t.start,.string (ba t.cls),.slice (some ⟨tA,0,none⟩) n n,.slice (some ⟨tB,0,none⟩) n n] 33)):=by
  show _=_;rw[G,hC]
 have HR:Hid (ρ tA=9/\ρ tB=9/\(∀ q∈gs,ρ q=9)):=⟨hrA,hrB,hrg⟩
 have J:Hid (t.acc.length=n/\t.next.length=n/\gs.length=n):=⟨c0,hnt,ht.gl▸hnt⟩
 have j0:=zh hok;have c3:=hok.c256.1;clear hb hf ht hok hnt hrA hrB hrg c0 o1 o2 o3 o4 o5 o6 K j5 hT G hC
 go_enter func18,ntmps18
 go_wp2
 rw[<-j6.out];obtain⟨q4,q5⟩:=a2.out w1 HK.out.fc.fX.now.2
 go_loopw [4] (λi wr=>∃(k:Nat) (ρ1:Nat->Nat) (Q:Nat->Value) (d1:Bd),i=.int .i64 k/\k<=n/\TK (λw'=>X w'/\w'.heap[w.heap.size]?=some (.cells C 33)) B w1 wr g ρ N d gs k ρ1 Q d1) (λi _=>n-(intOf i).toNat)
 case atStart=>exact⟨0,_,_,_,rfl,Zk _,HK.out⟩
 case round=>
  clear q4 q5 HK;obtain⟨k,ρ1,Q,d1,rfl,hk,S⟩:=hrel;have HK:=zh S;obtain⟨q4,q5⟩:=a2.out wr S.fc.fX.now.2;clear S
  by_cases hlt:k<n
  .have a7:(k:Int)<n:=ω;have A:k<gs.length:=J.out.2.2▸hlt;have z:k<t.next.length:=J.out.2.1▸hlt;obtain⟨o1,o2,o3,o4,o5,o6⟩:=y.out.o;obtain⟨r1,r2,r3⟩:=y.out.rows k A;have d8:∀ j (h:j<gs.length),j<k->gs[k]≠gs[j]:=λj h hj=>by
    have:=pairwise_iff_getElem.1 y.out.mono j k h A hj;omega
   have eB:=HK.out.oth tB o5 (by rw[HR.out.2.1];exact zq) (λj h _ e=>by have:=(o6 gs[j] (Zg h)).2;omega);have eK:=HK.out.oth gs[k] r3 (by rw[HR.out.2.2 _ (Zg A)];exact zq) d8;have c5:=(cell_of_block eB.1 k).trans (y.out.nb.c k z);simp only[rowAt,Zj A,Zj z,Option.getD_some] at c5;obtain⟨qk,D⟩:=zx (gs[k]);obtain⟨rl,W⟩:=zx (t.next[k].length);rw[<-D,<-W] at c5;have l8:rl<=256:=by rw[W,(j0.out.r _ (Zg z)).1];exact c3
   have h8:Hid (Calls prog 53 #[.pointer (some ⟨g,0,none⟩),.slice (some ⟨qk,0,none⟩) rl rl] wr λe w'=>e=.returned (.tuple #[])/\∃ ρ' p d',TK (λw'=>X w'/\w'.heap[w.heap.size]?=some (.cells C 33)) B w1 w' g ρ N d gs (k+1) ρ' p d'):=by
    have hi:=F9 _ B wr g ρ1 (N+k) Q d1 qk rl _ HK.out.bk HK.out.fc (by rw[D,eK.2];exact HR.out.2.2 _ (Zg A)) (by rw[D];have:=HK.out.sz;omega) (by rw[D,W];have:=r1.of_block eK.1;simpa [z] using this) ω ω ω (by rw[HK.out.ll];omega);refine hi.mono ?_;rintro e w' ⟨rfl,ρ',p,es,mm,b1,b2,b3,b4,b5,b6,b7⟩;refine⟨rfl,ρ',p,_,⟨by rw[show N+((k+1:Nat):Int)=N+k+1 by omega];exact b1,b2,?_,HK.out.lb,HK.out.lr,HK.out.bl.trans b5,Zc HK.out.sz b6,λb hb h9 hne'=>?_⟩⟩
    .simp only[length_append];rw[HK.out.ll,b3];omega
    .have e1:=HK.out.oth b hb h9 (λj h hj=>hne' j h ω);have e2:=b7 b (η HK.out.sz) (by rw[e1.2];exact h9) (by rw[D];exact hne' k A ω);exact⟨e2.1.trans e1.1,e2.2.trans e1.2⟩
   clear o1 o2 o3 o4 o5 o6 r1 r2 r3 d8 eB eK D W HK;go_wp2_with (go_at_call 53;refine h8.out.mono ?_;rintro e w3 ⟨rfl,ρ3,k5,d3,g8⟩;have j8:=zh g8;clear g8)
   go_roundw
   case rel=>exact⟨k+1,ρ3,k5,d3,π,ω,j8.out⟩
   case measure=>simp[intOf]<;>omega
  .have a3:¬(k:Int)<n:=ω;have z:k=n:=ω;subst z;obtain⟨o1,o2,o3,o4,o5,o6⟩:=y.out.o;have eA:=HK.out.oth tA o4 (by rw[HR.out.1];exact zq) (λj h _ e=>by have:=(o6 gs[j] (Zg h)).1;omega);have eT:=HK.out.oth tB o5 (by rw[HR.out.2.1];exact zq) (λj h _ e=>by have:=(o6 gs[j] (Zg h)).2;omega);have U:Hid (Calls prog 54 #[.pointer (some ⟨g,0,none⟩),.slice (some ⟨tA,0,none⟩) k k] wr λe w'=>e=.returned (.tuple #[])/\∃ ρ2 E d2,Bk B w' g ρ2 (N+k) E d2/\jq (λw'=>X w'/\w'.heap[w.heap.size]?=some (.cells C 33)) ρ2 0 0 w' d2/\d2.ls.length=d.ls.length+4*k/\d2.bs.length=d.bs.length+4/\d2.rs.length=d.rs.length/\Below B w1 w'/\w1.heap.size<=w'.heap.size/\w'.heap[tB]?=w1.heap[tB]?/\ρ2 tB=9):=by
    have hi:=DC _ B wr g ρ1 (N+k) Q d1 tA k t.acc HK.out.bk HK.out.fc (by rw[eA.2];exact HR.out.1) (η HK.out.sz) J.out.1 (by have:=y.out.na.of_block eA.1;rw[J.out.1] at this;exact this) ω ω ω (by rw[HK.out.lb];omega);refine hi.mono ?_;rintro e w' ⟨rfl,ρ',p,es,us,b1,b2,b3,b4,b5,b6,b7⟩;have e2:=b7 tB (η HK.out.sz) (by rw[eT.2,HR.out.2.1];exact zq) (λe=>o3 e.symm);refine⟨rfl,ρ',p,_,b1,b2,HK.out.ll,?_,HK.out.lr,HK.out.bl.trans b5,Zc HK.out.sz b6,e2.1.trans eT.1,e2.2.trans (eT.2.trans HR.out.2.1)⟩;simp only[length_append];rw[HK.out.lb,b3]
   have m5:tB<w1.heap.size:=o5;clear o1 o2 o3 o4 o5 o6 eA eT HK;go_wp2_with (go_at_call 54;refine U.out.mono ?_;rintro e w2 ⟨rfl,ρ2,E,d2,a1,f4,l1,l2,l3,a6,a5,f0,e0⟩;have c1:=a1.cn;have f1:=a1.fz 0;have Z:=zh a1;have h7:=zh f4;have h5:Hid (d2.ls.length=d.ls.length+4*k/\d2.bs.length=d.bs.length+4/\d2.rs.length=d.rs.length):=⟨l1,l2,l3⟩;have a8:=zh a6;have x:Hid (w2.heap[tB]?=w1.heap[tB]?/\ρ2 tB=9/\w1.heap.size<=w2.heap.size):=⟨f0,e0,a5⟩;clear a1 f4 l1 l2 l3 a6 a5 f0 e0)
   obtain⟨M,hM⟩:=zx (N+k+1);rw[<-hM];have HM:=zh hM;have m0:0<=M:=ω;have m7:M<=1000000000000:=ω;obtain⟨m,hm⟩:=zx (-1000-M);rw[<-hm];have i7:=zh hm;obtain⟨w4,F⟩:=zx ((w2.setCell ⟨g,0,none⟩ (.int .i64 M)).alloc (.cells #[.int .i64 m] 3));rw[<-F];obtain⟨s4,s5,s6⟩:=Bk.startN Z.out h7.out M;have O:Below (w2.setCell ⟨g,0,none⟩ (.int .i64 M)).heap.size (w2.setCell ⟨g,0,none⟩ (.int .i64 M)) w4:=by rw[F];exact ZA
   have j3:w4.heap.size=w2.heap.size+1:=by rw[F];simp[World.setCell]
   have g9:=zh (k9.out.trans (a8.out.trans (s6.trans (O.mono s4.B_le))));have L:tB<w2.heap.size:=by have:=x.out.2.2;omega
   have HJ:Hid (IJ (λw'=>X w'/\w'.heap[w.heap.size]?=some (.cells C 33)) B w4 w4 g ρ2 M d2 d2 tB 0 40 [] ρ2 E tB 0):=IJ.begin (s4.below O) (s5.below O) x.out.2.1 ω;have h4:tB≠g:=by rintro rfl;have:=Z.out.rg;have:=x.out.2.1;omega
   have s:Hid (Nw w4 tB k (λj=>if j<0 then .slice (some ⟨w2.heap.size,0,none⟩) 1 1 else rowAt gs t.next j)):=by
    have h0:=y.out.nb.of_block x.out.1;have h1:(w2.setCell ⟨g,0,none⟩ (.int .i64 M)).heap[tB]?=w2.heap[tB]?:=bC h4;have h2:=(h0.of_block h1).of_block (O.block tB (by rw[dZ];exact L));rw[J.out.2.1] at h2;exact h2.congr (λj _=>χ)
   have r:Hid (Ow ρ2 w2.heap.size (.cells #[.int .i64 m] 3 (0,0)) w4):=⟨Z.out.new _ zq,ω,by rw[F];have:=Za (w2.setCell ⟨g,0,none⟩ (.int .i64 M)) (.cells #[.int .i64 m] 3);rw[dZ] at this;exact this⟩
   obtain⟨ob,e6⟩:=zx w2.heap.size;rw[<-e6] at r s ⊢;obtain⟨r4,r5⟩:=a2.out w4 HJ.out.fc.fX.now.2;clear hM hm F s4 s5 s6 O j3 L h4 e6 c1 f1 Z h7 a8 x q4 q5 U a3
   go_loopw [6] (λi wr=>∃ kk:Nat,i=.int .i64 kk/\kk<=k/\IJ (λw'=>X w'/\w'.heap[w.heap.size]?=some (.cells C 33)) B w4 wr g ρ2 M d2 d2 tB 0 40 [] ρ2 E tB 0/\Nw wr tB k (λj=>if j<kk then .slice (some ⟨ob,0,none⟩) 1 1 else rowAt gs t.next j)/\Ow ρ2 ob (.cells #[.int .i64 m] 3 (0,0)) wr) (λi _=>k-(intOf i).toNat)
   case atStart=>exact⟨0,rfl,Zk _,HJ.out,s.out,r.out⟩
   case round=>
    clear r4 r5 HJ s r;obtain⟨kk,rfl,S,hj,e3,P⟩:=hrel;have HJ:=zh hj;have s:=zh e3;have r:=zh P;obtain⟨r4,r5⟩:=a2.out wr hj.fc.fX.now.2;clear hj e3 P
    by_cases hlt:kk<k
    .have a7:(kk:Int)<k:=ω;have c1:=s.out.c kk hlt;have f1:=s.out.fz kk;obtain⟨u,hu⟩:=zx ((if kk<kk then Value.slice (some ⟨ob,0,none⟩) 1 1 else rowAt gs t.next kk));rw[<-hu] at c1;clear hu;go_wp2
     go_roundw
     case rel=>
      refine⟨kk+1,π,ω,HJ.out.setq kk _,(s.out.set kk hlt _).congr (λj _=>?_),r.out.1,by rw[dZ];exact r.out.2.1,(bC (by rintro rfl;have:=HJ.out.rq;have:=r.out.1;omega)).trans r.out.2.2⟩
      by_cases e1:j=kk
      .subst e1;rw[Zi rfl,Zi ω]
      .rw[Zh e1]
       by_cases e2:j<kk
       .rw[Zi e2,Zi ω]
       .rw[Zh e2,Zh ω]
     case measure=>simp[intOf]<;>omega
    .have a3:¬(kk:Int)<k:=ω;have h6:kk=k:=ω;subst h6
     have c7:Hid (IJ (λw'=>X w'/\w'.heap[w.heap.size]?=some (.cells C 33)) B w4 wr g ρ2 M d2 d2 tB kk 40 ((replicate kk (Value.slice (some ⟨ob,0,none⟩) 1 1)).map id) ρ2 E tB kk):=HJ.out.take ⟨χ,λj u hu=>by
      obtain⟨hj,e⟩:=List.getElem?_eq_some_iff.1 hu;simp at hj e
      rw[s.out.c j hj,Zi hj,e],.inl rfl⟩
     clear s HJ;have e4:d2.os.length=d2.rs.length:=c7.out.fc.lR;have i9:=zh e4;have l5:d2.rs.length<=100000000000:=by have:=h5.out.2.2;omega
     clear e4;obtain⟨i1,i5,i6,k8,j1⟩:=info_parts Tryz.infoLI;obtain⟨i2,i0,i8,j4,k0⟩:=info_parts Tryz.infoI;obtain⟨i3,l4,k7,l0,j2⟩:=info_parts Tryz.infoLLI;go_wp2
     go_loopw [7,8] (λl i wr=>∃(k2:Nat) (ρ':Nat->Nat) (p:Nat->Value) (q cap:Nat) (es:List Value) (mm:List Int),l=.slice (some ⟨q,0,none⟩) (kk+k2) cap/\i=.int .i64 k2/\k2<=4/\es.length=k2/\mm.length=k2/\IJ (λw'=>X w'/\w'.heap[w.heap.size]?=some (.cells C 33)) B w4 wr g ρ2 M {d2 with rs:=d2.rs++es,os:=d2.os++mm} {d2 with rs:=d2.rs++es,os:=d2.os++mm} tB (kk+k2) 40 ((replicate (kk+k2) (Value.slice (some ⟨ob,0,none⟩) 1 1)).map id) ρ' p q cap/\Ow ρ' ob (.cells #[.int .i64 m] 3 (0,0)) wr) (λ_ i _=>4-(intOf i).toNat)
     case atStart=>exact⟨0,ρ2,E,tB,kk,[],[],rfl,rfl,ω,rfl,rfl,by simpa using c7.out,r.out⟩
     case round=>
      clear c7 r a3 r4 r5;obtain⟨k2,ρ',p,q,cap,es,mm,rfl,rfl,m6,f9,f3,hj,P⟩:=hrel;obtain⟨nn,d6⟩:=zx (kk+k2);rw[<-d6] at hj ⊢;have j9:=zh d6;have l7:nn<=1048580:=ω;have HJ:=zh hj;have r:=zh P;have e9:Hid (es.length=k2/\mm.length=k2):=⟨f9,f3⟩
      obtain⟨v5,Y⟩:=zx (p 5);obtain⟨v6,e5⟩:=zx (p 6);obtain⟨nR,T⟩:=zx ((d2.rs++es).length);obtain⟨nL,c2⟩:=zx ((d2.os++mm).length);have l9:nR<=1000000000004:=by rw[T,length_append];omega
      have l6:nL<=1000000000004:=by rw[c2,length_append,i9.out];omega
      have g6:=zh T;have d0:=zh c2;have h3:=zh Y;have I:=zh e5;have i4:Hid (wr.ownsRow 0 31 1 v5 nR (d2.rs++es)):=by
       show ownsRow _ _ _ _ _ _ _;rw[Y,T];exact hj.bk.own 5 ω
      have c6:=hj.bk.cl 5 ω;rw[<-Y] at c6;simp only[lD] at c6;clear d6 hj P Y e5 T c2 f9 f3
      by_cases hlt:k2<4
      .have a7:(k2:Int)<4:=ω;go_wp2_with (at_builtin;refine aD _ rfl (.tmp 62) (.tmp 64) 42 rfl 0 31 i3 (.slice none 0 0) 1 24 underlying42 l4 k7 l0 j2 rfl Zr v5 nR (d2.rs++es) rfl (Zm i4.out _) ⟨wr.heap.size,0,none⟩ 1 1 [.slice (some ⟨q,0,none⟩) nn cap] rfl rfl (eO _ _ _) Zt ω Zs ω (Zk _) _ rfl ?_;intro g1 k1 w6 d4 a4 b8;have hX:=(λj hj=>by match j with|0=>exact⟨rfl,rfl⟩|1=>exact⟨rfl,rfl⟩|2=>exact⟨rfl,rfl⟩|3=>exact⟨rfl,rfl⟩|4=>exact⟨rfl,rfl⟩|5=>exact absurd rfl hj|6=>exact⟨rfl,rfl⟩|_+7=>exact⟨rfl,rfl⟩:∀ j,j≠5->jU {d2 with rs:=d2.rs++es++[.slice (some ⟨q,0,none⟩) nn cap],os:=d2.os++mm} j=jU {d2 with rs:=d2.rs++es,os:=d2.os++mm} j/\gi {d2 with rs:=d2.rs++es++[.slice (some ⟨q,0,none⟩) nn cap],os:=d2.os++mm} j=gi {d2 with rs:=d2.rs++es,os:=d2.os++mm} j);rw[h3.out] at a4;obtain⟨f5,b0,f6,cc,cM⟩:=(HJ.out.below ZA).put 5 ω hX (n':=nR+1) (xs':=d2.rs++es++[.slice (some ⟨q,0,none⟩) nn cap]) (by rw[g6.out];simp[gi];omega) rfl d4 b8 a4;have g0:=(HJ.out.below ZA).putO 5 ω hX (n':=nR+1) (xs':=d2.rs++es++[.slice (some ⟨q,0,none⟩) nn cap]) (by rw[g6.out];simp[gi];omega) rfl d4 b8 a4 (r.out.below ZA);rw[<-h3.out] at b0;have a9:=cc 6 ω ω;rw[<-I.out] at a9;have HA:Hid (IJ (λw'=>X w'/\w'.heap[w.heap.size]?=some (.cells C 33)) B w4 (w6.setCell ⟨g,5,none⟩ (.slice (some ⟨g1,0,none⟩) (nR+1) k1)) g ρ2 M {d2 with rs:=d2.rs++es++[.slice (some ⟨q,0,none⟩) nn cap],os:=d2.os++mm} {d2 with rs:=d2.rs++es,os:=d2.os++mm} tB nn 40 ((replicate nn (Value.slice (some ⟨ob,0,none⟩) 1 1)).map id) (upd ρ' g1 7) (upd p 5 (.slice (some ⟨g1,0,none⟩) (nR+1) k1)) q cap):=f5;have d9:Hid (Ow (upd ρ' g1 7) ob (.cells #[.int .i64 m] 3 (0,0)) (w6.setCell ⟨g,5,none⟩ (.slice (some ⟨g1,0,none⟩) (nR+1) k1))):=g0;have g5:Hid ((w6.setCell ⟨g,5,none⟩ (.slice (some ⟨g1,0,none⟩) (nR+1) k1)).ownsRow 0 3 1 v6 nL ((d2.os++mm).map eI)):=(by show ownsRow _ _ _ _ _ _ _;rw[I.out,d0.out];exact HA.out.bk.own 6 ω);simp only[lD] at b0 f6 a9;clear d4 a4 f5 g0 cc hX)
       generalize (w6.setCell ⟨g,5,none⟩ (.slice (some ⟨g1,0,none⟩) (nR+1) k1))=w7 at HA d9 g5 ⊢;have d7:=HA.out.bk.cl 6 ω;rw[upd_ne _ _ ω,<-I.out] at d7;simp only[lD] at d7;have d1:=HA.out.bk.cn;have m3:(w7.alloc (.cells #[.int .i64 m] 3)).cell? ⟨g,6,none⟩=some v6:=cell_below ZA d7;have m1:=new_ne w7 ⟨g,6,none⟩ d7;have m2:IntKind.i64.wrap (-1000-M)=m:=by
        rw[i7.out];exact wrap64 _ ω ω
       clear b0 f6 a9 cM c6 b8
       go_region_law (refine cy _ (by rfl) (.tmp 72) (.tmp 78) 40 (by rfl) 0 3 i2 (.int .i64 0) 1 8 underlying40 i0 i8 j4 k0 (by rfl) Zr v6 nL ((d2.os++mm).map eI) (by rfl) (show ownsRow _ _ _ _ _ _ _ from Zm g5.out _) ⟨w7.heap.size,0,none⟩ 1 1 [.int .i64 m] (by rfl) (by rfl) (eO w7 _ _) Zt ω Zs ω (Zk _) _ (by rfl) ?_;intro g2 k3 w8 c8 V f8;rw[I.out] at V;obtain⟨R,e7,f7,_,_⟩:=(HA.out.below ZA).drew.put 6 ω (dB':={d2 with rs:=d2.rs++es++[.slice (some ⟨q,0,none⟩) nn cap],os:=d2.os++mm++[m]}) (Lq _ _ rfl rfl rfl rfl rfl) (n':=nL+1) (xs':=(d2.os++mm).map eI++[.int .i64 m]) (by rw[d0.out];simp[gi];omega) (by simp[jU]) c8 f8 (by rw[upd_ne _ _ ω];exact V);have b9:=(HA.out.below ZA).drew.putO 6 ω (dB':={d2 with rs:=d2.rs++es++[.slice (some ⟨q,0,none⟩) nn cap],os:=d2.os++mm++[m]}) (Lq _ _ rfl rfl rfl rfl rfl) (n':=nL+1) (xs':=(d2.os++mm).map eI++[.int .i64 m]) (by rw[d0.out];simp[gi];omega) (by simp[jU]) c8 f8 (by rw[upd_ne _ _ ω];exact V) ((d9.out.below ZA).below (ZB.drew));rw[upd_ne _ _ ω,<-I.out] at e7;have HB:=zh (R.fact (R.fc.addR (n:=nn) ω (λw' o=>⟨Ah χ R.row w' o,b9.kp (l:=[m]) (enc:=eI) (q:=q) (n:=nn) (c:=1) w' o⟩)));have U:=zh b9;simp only[lD] at e7 f7;clear c8 V R b9)
       all_goals
        go_wp2_with (at_builtin;refine fH _ rfl (.tmp 82) (.tmp 84) 31 rfl 40 i1 (.slice none 0 0) 24 underlying31 i5 i6 k8 j1 rfl q nn cap ((replicate nn (Value.slice (some ⟨ob,0,none⟩) 1 1)).map id) rfl (HB.out.row.of_block (Ze _ _ _ HB.out.ql)) ⟨w8.heap.size,0,none⟩ 1 (Value.slice (some ⟨ob,0,none⟩) 1 1) rfl (qR _ _ _ (dZ _ _ _)) rfl Zs ω ?_;intro g3 k4 m4 d5 c9 f2;have HC:=zh ((HB.out.below ZA).grow (DD nn _) d5 f2 c9);have j7:=zh ((HB.out.below ZA).growO d5 f2 c9 (U.out.below ZA));clear d5 c9)
        go_roundw
        case rel=>
         have hD:=HC.out;have g7:nn+1=kk+(k2+1):=by have:=j9.out;omega
         have hE:=e9.out;rw[append_assoc,append_assoc,g7] at hD;exact⟨k2+1,_,_,g3,k4,_,_,by rw[g7],π,ω,by simp[hE.1],by simp[hE.2],hD,j7.out⟩
        case measure=>simp[intOf]<;>omega
      .have a3:¬(k2:Int)<4:=ω;go_wp2
       refine bodyPost_end (results_none rfl _ _ _) rfl ?_;obtain⟨r1,r2,r3⟩:=HJ.out.rest;have hE:=e9.out;have hL:=h5.out;refine⟨rfl,_,_,_,by rw[HM.out] at r1;exact r1,r2.less (λ_ h=>h.1),hL.1,hL.2.1,?_,g9.out.trans HJ.out.bl⟩;simp only[length_append];omega
open Go.RowKit
abbrev BT:Obj:=.cells #[.int .i64 0,.slice none 0 0,.slice none 0 0,.slice none 0 0,.slice none 0 0,.slice none 0 0,.slice none 0 0] 44
def JN (lo g:Nat):Nat->Nat:=λb=>if b=g then 1 else if lo<=b/\b<g then 9 else 0
def KD (hl:lo<=g) (hg:w.heap[g]?=some BT) (hs:w.heap.size=g+1):Bk lo w g (JN lo g) 0 (λ_=>.slice none 0 0) ⟨[],[],[],[],[],[]⟩:=by
 refine⟨λk hk=>?_,by simp[cell?,hg],λo=>by simp[frozen?,hg],λk hk=>?_,λk _ b hb=>by simp[Value.ownBlock] at hb,by simp[JN],λb hb=>?_,λb hb=>?_⟩
 .obtain⟨h1,h2⟩:=hk
  match k with
  |1|2|3|4|5|6=>simp[cell?,hg,lD]
  |0=>omega
  |n+7=>omega
 .obtain⟨h1,h2⟩:=hk
  match k with
  |1|2|3|4|5|6=>exact Zn _ _ _ _
  |0=>omega
  |n+7=>omega
 .unfold JN;rw[Zh ω,Zh ω]
 .unfold JN at hb
  split at hb
  .omega
  .split at hb
   .omega
   .exact absurd rfl hb
def IM (lo g:Nat) (w:World):jq (λ_=>True) (JN lo g) 0 0 w ⟨[],[],[],[],[],[]⟩:=
 ⟨rfl,rfl,rfl,λi h=>by simp at h,λi h=>by simp at h,λi h=>by simp at h,λ_ _=>trivial⟩
def DE (w:World) (t:Tb) (c tA tB:Nat) (gs:List Nat) (lo g:Nat) (hl:lo<=g) (hg:w.heap[g]?=some BT) (hs:w.heap.size=g+1) (hA:tA<g) (hB:tB<g) (hG:∀ q∈gs,q<g) (ht:i_ lo w t tA tB gs) (hok:jf t c) :
  Calls prog 18 #[.pointer (some ⟨g,0,none⟩),tv t (.slice (some ⟨tA,0,none⟩) t.acc.length t.acc.length) (.slice (some ⟨tB,0,none⟩) t.next.length t.next.length)] w λe w'=>e=.returned (.tuple #[])/\Below lo w w'/\∀ w2,Below w'.heap.size w' w2->Calls prog 19 #[.pointer (some ⟨g,0,none⟩)] w2 λe w3=>e=.returned (.bool true)/\Below w2.heap.size w2 w3:=by
 have h9:∀ b,lo<=b->b<g->JN lo g b=9:=λb h1 h2=>by unfold JN;rw[Zh ω,Zi ⟨h1,h2⟩]
 have h:t.acc.length=t.next.length:=hok.n.symm;rw[h];refine(Aj (λ_=>True) lo w g (JN lo g) 0 _ _ t c tA tB gs lo t.next.length (KD hl hg hs) (IM lo g w) ht hok rfl ?_ ?_ ?_ ω ω χ χ χ).mono ?_
 .exact h9 tA ht.o.1 hA
 .exact h9 tB ht.o.2.1 hB
 .exact λq hq=>h9 q (by
   obtain⟨i,hi,rfl⟩:=mem_iff_getElem.1 hq
   exact(ht.rows i hi).2.1) (hG q hq)
 .rintro e w' ⟨rfl,ρ',r,d',hb,hf,l1,l2,l3,l⟩;have p:=hok.a2;refine⟨rfl,l,λw2 h2=>?_⟩;exact DA w2 g _ d' ((hb.below h2).stl (hf.below h2) (by rw[l1];simp;omega) (by rw[l2];simp) (by rw[l3];simp))
end Go.Proofs.YtbjabpodkaokjaaGreatDoor
