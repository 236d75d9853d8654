import Derived.Test.YtbjabpodkaokjaaGreatDoorCC23
set_option linter.all false
set_option maxHeartbeats 4000000
set_option maxRecDepth 100000
open List Nat Go.World Go.Proofs.Tryz
namespace Go.Proofs.YtbjabpodkaokjaaGreatDoor
open Go.RowKit
variable {w:World}{q:Nat}{p:Pc}{v:Value}{sb:Nat}{vf:Value}{s:ByteArray}{limit:Int}{o:Nat}{W:World}{vb:Value}{e:Ex}{w6 w2:World}{t:Tn}{n:Nat}{S:Nat->Prop}{B:Nat}{f b:Bool}{K:Nat}{va vn:Value}{a:Addr}{tb:Nat}{w7:World}{vr:Value}{rs:List W4}
variable (w t n K) in
def AO (ht:iH n K t) (hn:n<=200) (hK:K<=256) (va vn:Value) (hA:aS eB w va t.acc) (hN:fV eI w vn (xo t.next)) :
  Calls prog 43 #[.agg #[.bool t.front,.bool t.back,.int .i64 0,.string (ba (t.cls.map UInt8.ofNat)),va,vn]] w λe w'=>∃ E D,e=.returned (tv (fm (aG t)) E D)/\cJ w' (fm (aG t)) E D/\Below w.heap.size w w':=by
 obtain⟨bl,a8⟩:∃ bl,bl=bD t:=⟨_,rfl⟩
 have z1:Hid (bl=bD t):=a8;have V:bl.length=n:=by rw[a8];exact(jy _ _ _ _ (by simp[gd,ht.al,ht.nl])).trans ht.nl
 obtain⟨F,O⟩:∃ F,F=bh t bl:=⟨_,rfl⟩
 obtain⟨d,T⟩:∃ d,d=fD t.cls F:=⟨_,rfl⟩
 obtain⟨cls,d7⟩:∃ cls,cls=(F.map (bU (ai [] F))).map UInt8.ofNat:=⟨_,rfl⟩
 obtain⟨R,hR⟩:∃ R,R=bG (bH t bl) d 256 258 [bl.getD 0 0] 0 []:=⟨_,rfl⟩
 have HR:Hid (R=bG (bH t bl) d 256 258 [bl.getD 0 0] 0 []):=hR;have e2:Hid (∀ x,R=some x->aG t=⟨t.front,t.back,F.map (bU (ai [] F)),x.1.map λb=>t.acc.getD (bl.idxOf b) false,x.2⟩):=λx hx=>by
  have:iZ t (bD t)=some x:=by rw[<-hx,hR,T,O,a8];rfl
  unfold aG;rw[this,O,a8]
 have i7:Hid (d.length<=256/\∀ x∈d,x<K):=by
  have h1:F.length=t.cls.length:=by rw[O];simp[bh]
  refine⟨?_,by rw[T];exact I7 ht h1⟩;rw[T];have h2:=c_ [] F;have h3:=ht.cl;simp only[fD,length_map];simp at h2;omega
 have HT:Hid (iH n K t):=ht;have y6:=ht.n1;obtain⟨fa,o5⟩:∃ fa:UInt8->Bool,fa=λb=>t.acc.getD (bl.idxOf b) false:=⟨_,rfl⟩
 have n9:Hid (fa=λb=>t.acc.getD (bl.idxOf b) false):=o5;obtain⟨na,nc,f8⟩:=hN.form;rw[ie,ht.nl] at f8;subst f8;obtain⟨w1,a6⟩:∃ w1,w1=(w.alloc (.cells (tC t.front t.back (t.cls.map UInt8.ofNat) va (.slice na n nc)) 33)).alloc (.cells #[.bool false,.bool false,.int .i64 0,.string ⟨#[]⟩,.slice none 0 0,.slice none 0 0] 33):=⟨_,rfl⟩
 have d8:Below w.heap.size w w1:=by rw[a6];exact ZA.alloc χ _
 have t0:w1.heap.size=w.heap.size+2:=by rw[a6];simp
 have k9:w1.heap[w.heap.size]?=some (.cells (tC t.front t.back (t.cls.map UInt8.ofNat) va (.slice na n nc)) 33):=by rw[a6,Ze _ _ _ χ];exact Za w _
 have o8:w1.heap[w.heap.size+1]?=some (.cells #[.bool false,.bool false,.int .i64 0,.string ⟨#[]⟩,.slice none 0 0,.slice none 0 0] 33):=by
  rw[a6];have:=Za (w.alloc (.cells (tC t.front t.back (t.cls.map UInt8.ofNat) va (.slice na n nc)) 33)) (.cells #[.bool false,.bool false,.int .i64 0,.string ⟨#[]⟩,.slice none 0 0,.slice none 0 0] 33)
  simpa using this
 have l9:=Dv w1 t.front t.back 0 (t.cls.map UInt8.ofNat) va (.slice na n nc) t.acc t.next (hA.below d8) (hN.below d8) n K ht.al ht.nl ht.r hn hK;rw[show e_ t.next 202 (gd t.acc) 0=bl from a8.symm] at l9;have n8:Hid (fV eI w (.slice na n nc) (xo t.next)):=hN;have o6:Hid (aS eB w va t.acc):=hA;have b7:Hid (∀ w2,Below w1.heap.size w1 w2->w2.heap[w.heap.size]?=some (.cells #[.bool t.front,.bool t.back,.int .i64 0,.string (ba (t.cls.map UInt8.ofNat)),va,.slice na n nc] 33)/\w.heap.size+2<=w2.heap.size):=λw2 hb=>⟨(hb.block _ ω).trans k9,by have:=hb.size;omega⟩
 have b8:Hid (∀ w2 vb ob,aS fy w2 vb bl->Below w1.heap.size w1 w2->Calls prog 80 #[.agg #[.bool t.front,.bool t.back,.int .i64 0,.string (ba (t.cls.map UInt8.ofNat)),va,.slice na n nc],vb] (w2.alloc ob) λe w'=>∃ v,e=.returned (.tuple #[.string (ba cls),v])/\(∃ base,(w2.alloc ob).heap.size<=base/\w'.ownsRow base 3 1 v d.length (d.map eN))/\Below (w2.alloc ob).heap.size (w2.alloc ob) w'):=λw2 vb ob a4 N=>by
  have e3:Below w.heap.size w (w2.alloc ob):=(d8.trans (N.mono ω)).alloc (η N.size) _;have:=DO (w2.alloc ob) t.front t.back 0 va (.slice na n nc) vb t.cls t.next bl (hN.below e3) (a4.below ZA) K ht.cl ht.ck hK (by rw[V];exact ht.r) (by rw[ht.nl];exact hn) ω F O;rw[<-d7,<-T] at this;exact this
 have g5:Hid (∀ w2 w4 vb vo,Below w1.heap.size w1 w2->aS fy w2 vb bl->(∃ base,(w2.alloc (.cells (tC t.front t.back [] (.slice none 0 0) (.slice none 0 0)) 33)).heap.size<=base/\w4.ownsRow base 3 1 vo d.length (d.map eN))->Below (w2.alloc (.cells (tC t.front t.back [] (.slice none 0 0) (.slice none 0 0)) 33)).heap.size (w2.alloc (.cells (tC t.front t.back [] (.slice none 0 0) (.slice none 0 0)) 33)) w4->mw w t va (.slice na n nc) w2 (w4.setCell ⟨w2.heap.size,3,none⟩ (.string (ba cls))) vb vo bl d cls/\(∃ y,w4.cell? ⟨w2.heap.size,3,none⟩=some y)/\w4.frozen? ⟨w2.heap.size,3,none⟩=false):=λw2 w4 vb vo N a4 ⟨base,hbase,ho⟩ U=>by
  have z2:=N.size;have u2:(w2.alloc (.cells (tC t.front t.back [] (.slice none 0 0) (.slice none 0 0)) 33)).heap.size=w2.heap.size+1:=χ;rw[u2] at U hbase;have y5:=U.size;have e4:w4.heap[w2.heap.size]?=some (.cells (tC t.front t.back [] (.slice none 0 0) (.slice none 0 0)) 33):=(U.block _ ω).trans (Za w2 _);have k7:Below w.heap.size w w2:=d8.trans (N.mono ω);refine⟨⟨k7,?_,ω,(N.block _ ω).trans k9,(N.block _ ω).trans o8,a4,o6.out.below k7,n8.out.below k7,?_,base,ω,?_⟩,?_,?_⟩
  .exact((ZA.trans (U.mono ω))).setCell χ _
  .rw[ap e4];simp[tC]
  .exact ak ho (λb hb=>ah _ _ _ _ (η (cH ho hb)))
  .exact⟨_,by simp only[cell?,e4,tC];rfl⟩
  .simp[frozen?,e4]
 obtain⟨J,hJ⟩:∃ J:Act->World->Prop,∀ a' w',J a' w'↔(∃ w2 w0 vb vo tk l u v E D gs,mw w t va (.slice na n nc) w2 w0 vb vo bl d cls/\LS w0 w2.heap.size d.length w' v E D l tk ((l.take tk).map fa) u gs/\(∀ q∈l,q∈bl)/\l.Nodup/\u.length=tk/\bG (bH t bl) d 256 (258-tk) l tk u=R/\I8 a' (.agg #[.bool t.front,.bool t.back,.int .i64 0,.string (ba (t.cls.map UInt8.ofNat)),va,.slice na n nc]) (.pointer (some ⟨w.heap.size,0,none⟩)) (.pointer (some ⟨w.heap.size+1,0,none⟩)) vb (.pointer (some ⟨w2.heap.size,0,none⟩)) (.string (ba cls)) vo (.pointer (some ⟨w0.heap.size+1,0,none⟩))):=⟨_,λ_ _=>Iff.rfl⟩
 have HJ:Hid (∀ a' w',J a' w'↔(∃ w2 w0 vb vo tk l u v E D gs,mw w t va (.slice na n nc) w2 w0 vb vo bl d cls/\LS w0 w2.heap.size d.length w' v E D l tk ((l.take tk).map fa) u gs/\(∀ q∈l,q∈bl)/\l.Nodup/\u.length=tk/\bG (bH t bl) d 256 (258-tk) l tk u=R/\I8 a' (.agg #[.bool t.front,.bool t.back,.int .i64 0,.string (ba (t.cls.map UInt8.ofNat)),va,.slice na n nc]) (.pointer (some ⟨w.heap.size,0,none⟩)) (.pointer (some ⟨w.heap.size+1,0,none⟩)) vb (.pointer (some ⟨w2.heap.size,0,none⟩)) (.string (ba cls)) vo (.pointer (some ⟨w0.heap.size+1,0,none⟩)))):=hJ;have t2:Hid (w1=(w.alloc (.cells #[.bool t.front,.bool t.back,.int .i64 0,.string (ba (t.cls.map UInt8.ofNat)),va,.slice na n nc] 33)).alloc (.cells #[.bool false,.bool false,.int .i64 0,.string ⟨#[]⟩,.slice none 0 0,.slice none 0 0] 33)):=a6;have r3:Hid (cls=(F.map (bU (ai [] F))).map UInt8.ofNat):=d7;clear d7 hJ hA hN d8 hR a8 O T o5 ht k9 o8 a6 t0 o6 n8
 go_enter func43,ntmps43
 go_wp2
 rw[<-t2.out];refine Sx.ce 0 J (λa' w'=>258-lG (Lz a' 7) w') rfl ?_ ?_
 .intro hp;have t3:Hid _:=hp;clear hp;obtain⟨j0,j1,j2,j3,j4,j5⟩:=dH (b7.out w1 ZB).1;go_wp2_with (first|(go_at_call 80;refine(b8.out w2 (.slice (some ⟨g2,o2,none⟩) n c2) (.cells (tC t.front t.back [] (.slice none 0 0) (.slice none 0 0)) 33) n2.out q7.out).mono ?_;rintro e w4 ⟨vo,rfl,d6,U⟩;obtain⟨p1,⟨y4,p2⟩,p3⟩:=g5.out w2 w4 _ vo q7.out n2.out d6 U;have f3:Hid (mw w t va (.slice na n nc) w2 (w4.setCell ⟨w2.heap.size,3,none⟩ (.string (ba cls))) (.slice (some ⟨g2,o2,none⟩) n c2) vo bl d cls):=p1;clear p1 d6 U)|(go_at_call 79;refine l9.mono ?_;rintro e w2 ⟨vb,rfl,a4,N⟩;obtain⟨g2,o2,c2,f7,-⟩:=a4.nonnil ω;rw[V] at f7;subst f7;have q7:Hid (Below w1.heap.size w1 w2):=N;have n2:Hid (aS fy w2 (.slice (some ⟨g2,o2,none⟩) n c2) bl):=a4;obtain⟨q1,q2⟩:=b7.out w2 N;obtain⟨k0,k1,k2,k3,k4,k5⟩:=dH q1;have d0:=λob=>cell_below (ZB.alloc zq ob:Below w2.heap.size w2 (w2.alloc ob)) k0;have d1:=λob=>cell_below (ZB.alloc zq ob:Below w2.heap.size w2 (w2.alloc ob)) k1;have d2:=λob=>cell_below (ZB.alloc zq ob:Below w2.heap.size w2 (w2.alloc ob)) k2;have d3:=λob=>cell_below (ZB.alloc zq ob:Below w2.heap.size w2 (w2.alloc ob)) k3;have d4:=λob=>cell_below (ZB.alloc zq ob:Below w2.heap.size w2 (w2.alloc ob)) k4;have d5:=λob=>cell_below (ZB.alloc zq ob:Below w2.heap.size w2 (w2.alloc ob)) k5;clear q1 a4 N j0 j1 j2 j3 j4 j5)|(go_at_call 81;obtain⟨w0,m3⟩:∃ w0,w0=w4.setCell ⟨w2.heap.size,3,none⟩ (.string (ba cls)):=⟨_,rfl⟩;rw[<-m3];rw[<-m3] at f3;refine(Dk w0).mono ?_;rintro e w5 ⟨rfl,a2,o0⟩;have c8:=f3.out.first d.length a2 o0;have n6:Hid (LS w0 w2.heap.size d.length w5 (.slice none 0 0) (.slice none 0 0) (.slice none 0 0) [] 0 [] [] []):=c8;obtain⟨r1,r2,-⟩:=f3.out.keep c8.ex;have m2:=(dH r1).2.2.1;obtain⟨g9,o9,c9,e9,m0⟩:=r2.at (i:=0) ω;simp only[Value.slice.injEq,Option.some.injEq,Addr.mk.injEq] at e9;obtain⟨⟨rfl,rfl,-⟩,-,rfl⟩:=e9;simp only[fy,Nat.add_zero] at m0;clear r1 r2 c8 a2 o0 m3 k0 k1 k2 k3 k4 k5 d0 d1 d2 d3 d4 d5 p2 p3)|(go_at_call 82;refine(xa w5 (w0.heap.size+1) w0.heap.size (.slice none 0 0) [] 0 (bl[0]'ω) n6.out.num χ χ).mono ?_;rintro e w6 ⟨rfl,v6,i2,n7,s1⟩;have v3:aq [] (bl[0]'ω)=[bl.getD 0 0]:=(by simp[aq,getD_eq_getElem?_getD,show 0<bl.length by omega]);rw[v3] at i2;have u0:Hid (LS w0 w2.heap.size d.length w6 v6 (.slice none 0 0) (.slice none 0 0) [bl.getD 0 0] 0 [] [] []):=n6.out.of i2 n7 s1;clear i2 n7 s1 m0 m2))
  go_step3
  exact ‹∀ a w,Code.wp _ _ _ a w->_› _ _ (t3.out _ _ ((HJ.out _ _).2 ⟨w2,w0,_,vo,0,[bl.getD 0 0],[],v6,.slice none 0 0,.slice none 0 0,[],f3.out,u0.out,by simp[getD_eq_getElem?_getD,show 0<bl.length by omega],χ,rfl,HR.out.symm,Ce⟩))
 .intro a' w' hj;obtain⟨w2,w0,vb,vo,tk,l,u,v,E,D,gs,H,I,m5,b6,v7,P,g0⟩:=(HJ.out _ _).1 hj;refine I9 g0 ?_;clear hj l9 g0;intro u8 u9 u10 u11 u12 u13 u14 u15 u16 u17 u18 u19 u20 u21 u22 u23 u24 u25 u26 u27 u28 u29 u30 u31 u32 u33 u34 u35 u36 u37 u38 u39 u40 u41 u42 u43 u44 u45 u46 u47 u48 u49 u50 u51 u52 u53 u54 u55 u56 u57 u58 u59 u60 u61 u62 u63 u64 u65 u66 u67 u68 u69 u70 u71 u72 u73 u74 u75 u76 u77 u78 u79 u80 u81 u82 u83 u84 u85 u86 u87 u88 u89 u90;have G:Hid (mw w t va (.slice na n nc) w2 w0 vb vo bl d cls):=H;have a7:Hid (LS w0 w2.heap.size d.length w' v E D l tk ((l.take tk).map fa) u gs):=I;have q6:Hid (av 5 1 w' (w0.heap.size+1) w0.heap.size v (l.map fy) tk):=I.num;have t4:=I.num.tl;simp only[length_map] at t4;have k8:=mQ b6;obtain⟨f,hf⟩:∃ f,258-tk=f+1:=⟨257-tk,ω⟩
  rw[hf] at P;simp only[bG] at P
  cases hq:l[tk]? with
  |none=>
   have v9:tk=l.length:=by have:=List.getElem?_eq_none_iff.1 hq;omega
   rw[hq] at P
   simp only at P
   have HQ:Hid (R=some (l,u)):=P.symm;subst v9;have f5:=wY w' (w0.heap.size+1) w0.heap.size v (l.map fy) (by have:=I.num;simpa using this);rw[take_length] at a7;have i1:Hid (∀ W,LS w0 w2.heap.size d.length W v E D l l.length (l.map fa) u gs->W.heap[w.heap.size+1]?=some (.cells #[.bool false,.bool false,.int .i64 0,.string ⟨#[]⟩,.slice none 0 0,.slice none 0 0] 33)/\(W.cell? ⟨w2.heap.size,0,none⟩=some (.bool t.front)/\W.cell? ⟨w2.heap.size,1,none⟩=some (.bool t.back)/\W.cell? ⟨w2.heap.size,2,none⟩=some (.int .i64 0)/\W.cell? ⟨w2.heap.size,3,none⟩=some (.string (ba cls))/\W.cell? ⟨w2.heap.size,4,none⟩=some E/\W.cell? ⟨w2.heap.size,5,none⟩=some D)/\∀ o,W.frozen? ⟨w.heap.size+1,o,none⟩=false):=λW hW=>by
    have z3:=G.out.s2;have e1:=((G.out.low hW.ex).block (w.heap.size+1) ω).trans G.out.res;have e7:=G.out.tb;refine⟨e1,⟨?_,?_,?_,?_,hW.c4,hW.c5⟩,λo=>by simp[frozen?,e1]⟩
    .rw[hW.cs 0 ω ω];simp[cell?,e7,tC]
    .rw[hW.cs 1 ω ω];simp[cell?,e7,tC]
    .rw[hW.cs 2 ω ω];simp[cell?,e7,tC]
    .rw[hW.cs 3 ω ω];simp[cell?,e7,tC]
   obtain⟨aa,am,ac,e5⟩:∃ a m c,E=.slice a m c:=by obtain⟨a,c,h⟩:=mR I.ar;exact⟨a,_,c,h⟩
   obtain⟨b4,b0,b9,f8⟩:∃ a m c,D=.slice a m c:=by obtain⟨a,c,h⟩:=mR I.nr;exact⟨a,_,c,h⟩
   clear P I H hq v7;subst e5 f8;clear HJ g5 b8 b7 k8 b6 m5;go_wp2_with (go_at_call 83;refine f5.mono ?_;rintro e w3 ⟨rfl,e3⟩;have i4:Hid (LS w0 w2.heap.size d.length w3 v (.slice aa am ac) (.slice b4 b0 b9) l l.length (l.map fa) u gs):=a7.out.below e3;obtain⟨y1,⟨k0,k1,k2,k3,k4,k5⟩,y3⟩:=i1.out w3 i4.out;clear i1 a7 q6;obtain⟨j0,j1,j2,j3,j4,j5⟩:=dH y1;have Y1:Hid (w3.heap[w.heap.size+1]?=some (.cells #[.bool false,.bool false,.int .i64 0,.string ⟨#[]⟩,.slice none 0 0,.slice none 0 0] 33)):=y1;clear y1 e3)
   simp only[Exit.jump];obtain⟨Wf,c7⟩:∃ Wf,Wf=(((((w3.setCell ⟨w.heap.size+1,0,none⟩ (.bool t.front)).setCell ⟨w.heap.size+1,1,none⟩ (.bool t.back)).setCell ⟨w.heap.size+1,2,none⟩ (.int .i64 0)).setCell ⟨w.heap.size+1,3,none⟩ (.string (ba cls))).setCell ⟨w.heap.size+1,4,none⟩ (.slice aa am ac)).setCell ⟨w.heap.size+1,5,none⟩ (.slice b4 b0 b9):=⟨_,rfl⟩
   have u6:Wf.heap[w.heap.size+1]?=some (.cells #[.bool t.front,.bool t.back,.int .i64 0,.string (ba cls),.slice aa am ac,.slice b4 b0 b9] 33):=by
    rw[c7,ap (ap (ap (ap (ap (ap Y1.out)))))]
    simp
   have p5:∀ b,w0.heap.size<=b->Wf.heap[b]?=w3.heap[b]?:=λb hb=>by
    have h1:=G.out.lt;have h2:=G.out.s2;rw[c7]
    iterate 6 rw[ah _ _ _ _ ω]
   have u7:Below w.heap.size w Wf:=by
    have h2:=G.out.s2;have h3:=(G.out.bw).trans ((G.out.low i4.out.ex).mono ω);rw[c7];exact(((((h3.setCell χ _).setCell χ _).setCell χ _).setCell χ _).setCell χ _).setCell χ _
   have h8:=i4.out.tab p5;have n0:Hid (fm (aG t)=⟨t.front,t.back,0,cls,l.map fa,xo u⟩):=by
    show _=_;rw[e2.out _ HQ.out,r3.out,n9.out];rfl
   rw[<-c7];obtain⟨q0,q1,q2,q3,q4,q5⟩:=dH u6;clear k0 k1 k2 k3 k4 k5 j0 j1 j2 j3 j4 j5 y3 c7;refine Zb (v:=.agg #[.bool t.front,.bool t.back,.int .i64 0,.string (ba cls),.slice aa am ac,.slice b4 b0 b9]) (by simp[results,results43,go_sem,q0,q1,q2,q3,q4,q5]) rfl ⟨.slice aa am ac,.slice b4 b0 b9,?_,?_,u7⟩
   .rw[n0.out]
   .rw[n0.out];exact⟨h8.1,h8.2⟩
  |some q=>
   have t5:=(List.getElem?_eq_some_iff.1 hq).1;rw[hq] at P
   simp only at P
   have r0:(l.map fy)[tk]?=some (.int .u8 ((q.toNat:Nat):Int)):=by rw[getElem?_map,hq];rfl
   have s2:q∈bl:=m5 q (mem_of_getElem? hq);have f5:=wZ w' (w0.heap.size+1) w0.heap.size v (l.map fy) tk q.toNat I.num r0 σ;rw[Zh (η (mQ (bR b6 (d.map (bH t bl q)))))] at P;have j8:Hid (bG (bH t bl) d 256 f (ai l (d.map (bH t bl q))) (tk+1) (u++[(d.map (bH t bl q)).map (ai l (d.map (bH t bl q))).idxOf])=R):=P;obtain⟨A,hA⟩:∃ A,A=(l.take tk).map fa:=⟨_,rfl⟩
   have x8:A.length<=256:=by rw[hA];simp;omega
   have m6:Hid ((l.take (tk+1)).map fa=A++[fa q]):=by
    show _=_;obtain⟨h1,h2⟩:=List.getElem?_eq_some_iff.1 hq;rw[Zl h1,map_append,h2,hA];rfl
   rw[<-hA] at I a7;have g8:∀ g,g∈gs->g<w'.heap.size:=λg hg=>by
    obtain⟨j,hj,rfl⟩:=getElem_of_mem hg;exact(Array.getElem?_eq_some_iff.1 (I.rw j hj (I.gl▸hj)).1).1
   obtain⟨M,hM⟩:∃ M,M=d.length:=⟨_,rfl⟩
   have s6:M<=256:=hM▸i7.out.1;obtain⟨iI,w8,x0,p0,q8⟩:=info_parts Tryz.infoI;have s8:=λw0=>dv underlying40 w8 x0 p0 q8 M ω Zs w0
   obtain⟨oa,oc,e6⟩:∃ a c,vo=.slice a M c:=by obtain⟨base,_,ho⟩:=H.ol;obtain⟨a,c,h⟩:=mR ho;exact⟨a,c,by rw[h,hM]⟩
   obtain⟨bg,bo,bc,f7⟩:∃ g o c,vb=.slice (some ⟨g,o,none⟩) n c:=by obtain⟨g,o,c,h,_⟩:=H.row.nonnil ω;exact⟨g,o,c,by rw[h,V]⟩
   obtain⟨i0,b5⟩:∃ i0,i0=bl.idxOf q:=⟨_,rfl⟩
   have a9:i0<n:=by rw[b5,<-V];exact Zq s2
   have s0:Hid (∀ W,cd (λb=>b=w2.heap.size) w0 W->Calls prog 84 #[vb,.int .u8 (q.toNat:Int)] W λe w''=>e=.returned (.int .i64 (i0:Int))/\w''=W):=λW hx=>by
    rw[b5];exact xU W vb bl q (G.out.keep hx).2.1 s2
   have Z:Hid (∀ old,bH t bl q old=bl.getD ((t.next.getD i0 []).getD old 0) 0):=λold=>by rw[b5];rfl
   have f9:Hid (∃ h:i0<t.acc.length,fa q=t.acc[i0]):=by
    have h1:i0<t.acc.length:=HT.out.al▸a9;refine⟨h1,?_⟩;rw[n9.out];show t.acc.getD (bl.idxOf q) false=_;rw[<-b5,getD_eq_getElem?_getD,Zj h1];rfl
   subst e6 f7;have HM:Hid (M=d.length):=hM;rw[<-hM] at a7;have m1:Hid (∀ W,cd (λb=>b=w2.heap.size) w0 W->W.cell? ⟨w.heap.size,5,none⟩=some (.slice na n nc)/\W.cell? ⟨w.heap.size,4,none⟩=some va):=λW hx=>by
    have:=dH (G.out.keep hx).1;exact⟨this.2.2.2.2.2,this.2.2.2.2.1⟩
   clear P I hq r0 hM hA b5 H;go_wp2_with (first|(go_at_call 83;refine f5.mono ?_;rintro e w3 ⟨rfl,p4,j7⟩;have p7:LS w0 w2.heap.size M w3 v E D l (tk+1) A u gs:=a7.out.of p4 (λg hg=>.inl hg) j7;have c6:Hid (LS w0 w2.heap.size M w3 v E D l (tk+1) A u gs):=p7;have p8:Hid (w'.heap.size<=w3.heap.size):=j7.size;clear p4 j7 p7)|(go_at_call 84;refine(s0.out w3 c6.out.ex).mono ?_;rintro e w9 ⟨rfl,m7⟩;obtain rfl:=m7.symm))
   obtain⟨w4,f2⟩:∃ w4,w4=w3.alloc (.cells (jp M (.int .i64 0)) 3):=⟨_,rfl⟩
   rw[<-f2];have U:Below w3.heap.size w3 w4:=by rw[f2];exact ZA
   have h4:w4.heap[w3.heap.size]?=some (.cells ((replicate M 0).map eN).toArray 3 (0,0)):=by
    have e0:((replicate M 0).map eN).toArray=jp M (.int .i64 0):=by rw[yd _ _ rfl,map_replicate];rfl
    rw[e0,f2];exact Za w3 _
   have s5:Hid (LS w0 w2.heap.size M w4 v E D l (tk+1) A u gs):=c6.out.below U;obtain⟨C,a5⟩:∃ C,C=(d.map (bH t bl q)).map (ai l (d.map (bH t bl q))).idxOf:=⟨_,rfl⟩
   have j9:C.length=M:=by rw[a5];simp;exact HM.out.symm
   have o4:Hid (C=(d.map (bH t bl q)).map (ai l (d.map (bH t bl q))).idxOf):=a5;obtain⟨H2,i9⟩:∃ H2,H2=w3.heap.size:=⟨_,rfl⟩
   have r6:Hid (w4.heap[H2]?=some (.cells ((rowP C 0).map eN).toArray 3 (0,0))):=by show _=_;rw[i9,uh,j9];exact h4
   have s9:Hid (∀ g∈gs,g<H2):=λg hg=>by have:=g8 g hg;have:=p8.out;omega
   have x7:w0.heap.size+2<=H2:=by have:=c6.out.num.lt (.inl rfl);omega
   rw[<-i9];have v4:Hid (∀ g,v.ownBlock=some g->g≠H2):=λg hg=>by have:=de c6.out.num.own hg;omega
   clear f2 U h4 a5 i9 f5 g8 s8 c6 m7;have c0:Hid (∀ c,(ai l ((d.take c).map (bH t bl q))).Nodup/\(ai l ((d.take c).map (bH t bl q))).length<=256):=λc=>⟨bR b6 _,mQ (bR b6 _)⟩
   go_loopw [53] (λi wr=>∃(c:Nat) (v':Value),c<=M/\i=.int .i64 c/\LS w0 w2.heap.size M wr v' E D (ai l ((d.take c).map (bH t bl q))) (tk+1) A u gs/\wr.heap[H2]?=some (.cells ((rowP C c).map eN).toArray 3 (0,0))/\(∀ g,v'.ownBlock=some g->g≠H2)) (λi _=>M-(intOf i).toNat)
   case atStart=>exact⟨0,v,ω,rfl,s5.out,r6.out,v4.out⟩
   case round=>
    obtain⟨c,v',hc,rfl,X,f1,e6⟩:=hrel;have r4:Hid (∀ g,v'.ownBlock=some g->g≠H2):=e6;clear e6;have L:Hid (LS w0 w2.heap.size M wr v' E D (ai l ((d.take c).map (bH t bl q))) (tk+1) A u gs):=X;have j6:Hid (wr.heap[H2]?=some (.cells ((rowP C c).map eN).toArray 3 (0,0))):=f1
    by_cases hlt:c<M
    .have x1:(c:Int)<M:=ω;have l0:c<d.length:=by have:=HM.out;omega
     obtain⟨og,oo,y0,e1,y8⟩:=(G.out.keep X.ex).2.2.2.2.at (i:=c) l0;simp only[Value.slice.injEq] at e1;obtain⟨rfl,-,rfl⟩:=e1;have l4:d[c]<K:=i7.out.2 _ (Zg _);obtain⟨b1,o1,b2,o2,c2,g3,o3,c3,x,n1,l1,l2,x9,g7,l3,hx,l8⟩:=G.out.loads HT.out V X.ex a9 l4;simp only[Value.slice.injEq,Option.some.injEq,Addr.mk.injEq,true_and,and_true] at g7;obtain⟨⟨rfl,rfl⟩,rfl⟩:=g7;have c8:=(m1.out wr X.ex).1;rw[n1] at c8;have Y:bH t bl q d[c]=bl.getD x 0:=by rw[Z.out,hx]
     have c4:Hid (ai l ((d.take (c+1)).map (bH t bl q))=aq (ai l ((d.take c).map (bH t bl q))) (bl.getD x 0)):=by
      show _=_;rw[Zl l0,map_append,cO,<-Y];rfl
     have i6:Hid (C[c]'ω=(aq (ai l ((d.take c).map (bH t bl q))) (bl.getD x 0)).idxOf (bl.getD x 0)):=by
      show _=_;have h2:c<(d.map (bH t bl q)).length:=by simpa using l0
      have:=qw l h2;rw[<-map_take,getElem_map,Y] at this;rw[<-this];simp only[o4.out,getElem_map,Y]
     obtain⟨m,hm⟩:∃ m,m=ai l ((d.take c).map (bH t bl q)):=⟨_,rfl⟩
     have Q:=c0.out c;rw[<-hm] at Q c4 i6 L;obtain⟨z,hz⟩:∃ z,z=bl.getD x 0:=⟨_,rfl⟩
     rw[<-hz] at l3 c4 i6;simp only[fy] at l3;obtain⟨fc,l5⟩:∃ fc,fc=C[c]'ω:=⟨_,rfl⟩
     have s3:Hid (fc=C[c]'ω):=l5;have i3:=xa wr (w0.heap.size+1) w0.heap.size v' m (tk+1) z L.out.num ω Q.1;have h5:(@idxOf _ instBEqOfDecidableEq z (aq m z):Nat)=fc:=by
      rw[l5,i6.out]
     rw[h5] at i3;simp only[fy] at i3;have u1:Hid (H2<wr.heap.size):=(ZC j6.out)
     have q9:Hid (∀ w5 v2,av 5 1 w5 (w0.heap.size+1) w0.heap.size v2 ((aq m z).map fy) (tk+1)->(∀ g,v2.ownBlock=some g->v'.ownBlock=some g\/wr.heap.size<=g)->cd (cZ (w0.heap.size+1) w0.heap.size v') wr w5->(LS w0 w2.heap.size M (w5.setCell ⟨H2,c,none⟩ (eN fc)) v2 E D (aq m z) (tk+1) A u gs/\(w5.setCell ⟨H2,c,none⟩ (eN fc)).heap[H2]?=some (.cells ((rowP C (c+1)).map eN).toArray 3 (0,0))/\(∀ g,v2.ownBlock=some g->g≠H2))/\(∃ y,w5.cell? ⟨H2,c,none⟩=some y)/\∀ o,w5.frozen? ⟨H2,o,none⟩=false):=λw5 v2 a2 d9 c1=>by
      have r7:=u1.out;have f4:=L.out.of a2 d9 c1;have t9:¬ cZ (w0.heap.size+1) w0.heap.size v' H2:=λq=>by
       rcases q with q|q|q
       .omega
       .omega
       .exact r4.out _ q.symm rfl
      have k1:w5.heap[H2]?=some (.cells ((rowP C c).map eN).toArray 3 (0,0)):=(c1.block _ ω t9).trans j6.out;have n5:∀ g,v2.ownBlock=some g->g≠H2:=λg hg=>by
       rcases d9 g hg with q|q
       .exact r4.out g q
       .omega
      have t5:=f4.tl.1
      refine⟨⟨f4.keep (S:=λb=>b=H2) (iN rfl) ω (λb hb=>ω) (λb hb q=>?_),?_,n5⟩,⟨_,by
       simp only[cell?,k1];simp[yh C c ω,show c<C.length by omega]
       rfl⟩,λo=>by simp[frozen?,k1]⟩
      .subst q;rcases hb with hb|hb|hb|hb|hb|hb
       .omega
       .omega
       .exact n5 _ hb rfl
       .obtain⟨cs,l7⟩:=az f4.ar hb;exact aU l7 k1 Zr rfl
       .obtain⟨cs,l7⟩:=az f4.nr hb;exact aU l7 k1 Zr rfl
       .have:=s9.out _ hb;omega
      .rw[ap k1,<-yg C c ω,<-s3.out];simp[map_set]
     have s4:(i0:Int)<n:=ω;have y7:(d[c]:Int)<K:=ω;have z0:(x:Int)<n:=ω;clear hm hz l5 h5 Q X f1 Y hx l8 n1;go_wp2_with (go_at_call 82;refine i3.mono ?_;rintro e w5 ⟨rfl,v2,a2,d9,c1⟩;obtain⟨p1,⟨y,p2⟩,p3⟩:=q9.out w5 v2 a2 d9 c1;have m4:Hid (LS w0 w2.heap.size M (w5.setCell ⟨H2,c,none⟩ (eN fc)) v2 E D (aq m z) (tk+1) A u gs/\(w5.setCell ⟨H2,c,none⟩ (eN fc)).heap[H2]?=some (.cells ((rowP C (c+1)).map eN).toArray 3 (0,0))/\(∀ g,v2.ownBlock=some g->g≠H2)):=p1;clear a2 d9 c1 p1)
     go_roundw
     case rel=>exact⟨c+1,v2,ω,π,c4.out▸m4.out.1,m4.out.2.1,m4.out.2.2⟩
     case measure=>simp[intOf]<;>omega
    .have z4:¬(c:Int)<M:=ω;have r5:c=M:=ω;have g1:(d.take c).map (bH t bl q)=d.map (bH t bl q):=by rw[r5,HM.out,take_length]
     have Q:=c0.out c;rw[g1] at L Q;have i8:Hid (wr.heap[H2]?=some (.cells (C.map eN).toArray 3 (0,0))):=by
      have:=f1;rw[r5,<-j9,ye] at this;exact this
     rw[<-o4.out] at j8;obtain⟨m,hm⟩:∃ m,m=ai l (d.map (bH t bl q)):=⟨_,rfl⟩
     have H:l <+: m:=by rw[hm];exact fj _ _
     have h0:∀ y∈m,y∈bl:=λy hy=>by
      rw[hm] at hy;rcases aH.1 hy with hy|hy
      .exact m5 y hy
      .obtain⟨r,hr,rfl⟩:=mem_map.1 hy;obtain⟨_,_,_,_,_,_,_,_,x,-,-,-,-,-,-,hx,l8⟩:=G.out.loads HT.out V X.ex a9 (i7.out.2 r hr);rw[Z.out,<-hx];exact l8
     have u5:Hid (∀ y∈m,y∈bl):=h0;rw[<-hm] at L j8 Q;have l6:=L.out.c4;obtain⟨iB,u3,t7,p9,r9⟩:=info_parts Tryz.infoB;obtain⟨iL,u4,t8,p6,m8⟩:=info_parts Tryz.infoLI;have v0:Hid (wr.ownsRow (w0.heap.size+2) 4 1 E A.length (A.map eB)):=L.out.ar;have x5:gs.length<=256:=by rw[L.out.gl];omega
     have o7:Hid ((m.take (tk+1)).map fa=A++[fa q]):=by
      show _=_;rw[<-m6.out];obtain⟨r,hr⟩:=H;rw[<-hr,take_append_of_le_length ω]
     have b3:=(m1.out wr X.ex).2;obtain⟨m9,h6⟩:=f9.out;obtain⟨ag,ao,ac,e5,i5⟩:=(G.out.keep X.ex).2.2.1.at m9;rw[<-h6] at i5;rw[e5,HT.out.al] at b3;have s4:(i0:Int)<n:=ω;have f6:Below wr.heap.size wr (wr.alloc (.cells #[.bool (fa q)] 4)):=ZA;have v8:=cell_below f6 l6;have v5:=new_ne wr ⟨w2.heap.size,4,none⟩ l6;have x3:=L.out.tl.1;have r7:H2<wr.heap.size:=(ZC i8.out)
     have x2:w0.heap.size+2<=wr.heap.size:=ω;have h7:Hid (∀ {w4:World}{g k:Nat},w4.ownsRow (w0.heap.size+2) 4 1 (.slice (some ⟨g,0,none⟩) (A.length+1) k) (A.length+1) (A.map eB++[eB (fa q)])->((E.ownBlock=some g/\(wr.alloc (.cells #[.bool (fa q)] 4)).drew.grownBy w4 (some g))\/(g=(wr.alloc (.cells #[.bool (fa q)] 4)).heap.size/\(wr.alloc (.cells #[.bool (fa q)] 4)).drew.grownBy w4 none))->(LS w0 w2.heap.size M (w4.setCell ⟨w2.heap.size,4,none⟩ (.slice (some ⟨g,0,none⟩) (A.length+1) k)) v' (.slice (some ⟨g,0,none⟩) (A.length+1) k) D m (tk+1) (A++[fa q]) u gs/\(w4.setCell ⟨w2.heap.size,4,none⟩ (.slice (some ⟨g,0,none⟩) (A.length+1) k)).heap[H2]?=some (.cells (C.map eN).toArray 3 (0,0)))/\w4.cell? ⟨w2.heap.size,4,none⟩=some E/\w4.frozen? ⟨w2.heap.size,4,none⟩=false):=λ{w4 g k} ho hc=>by
      obtain⟨q1,q2,q3⟩:=L.out.acc1 (wa:=(wr.alloc (.cells #[.bool (fa q)] 4)).drew) f6.drew ho rfl hc;have x4:=L.out.tl.1;refine⟨⟨q1,?_⟩,q2,q3⟩;rw[ah _ _ _ _ ω];refine(ct (wa:=(wr.alloc (.cells #[.bool (fa q)] 4)).drew) rfl hc σ (λq=>?_)).trans ((f6.block H2 r7).trans i8.out);obtain⟨ds,v1⟩:=az L.out.ar q;exact aU i8.out v1 Zr rfl
     simp only[eB] at i5;clear X f1 g1 hm j6 H h0 e5 h6 m9 c0 f9 s0 Z m1;go_wp2
     go_region_law (refine cy _ (by rfl) (.tmp 76) (.tmp 82) 30 (by rfl) (w0.heap.size+2) 4 iB _ 1 1 underlying30 u3 t7 p9 r9 (by rfl) Zr E A.length (A.map eB) (by rfl) (show ownsRow _ _ _ _ _ _ _ from Zm v0.out _) ⟨wr.heap.size,0,none⟩ 1 1 [.bool (fa q)] (by rfl) (by rfl) (news_of_block (w:=wr.alloc (.cells #[.bool (fa q)] 4)) (Za wr _)) Zt ω Zs ω σ _ (by rfl) ?_;intro g4 k4 w4 d6 h9 z5;obtain⟨a1,e0,f0⟩:=h7.out d6 h9;have HA:Hid (LS w0 w2.heap.size M (w4.setCell ⟨w2.heap.size,4,none⟩ (.slice (some ⟨g4,0,none⟩) (A.length+1) k4)) v' (.slice (some ⟨g4,0,none⟩) (A.length+1) k4) D m (tk+1) (A++[fa q]) u gs/\(w4.setCell ⟨w2.heap.size,4,none⟩ (.slice (some ⟨g4,0,none⟩) (A.length+1) k4)).heap[H2]?=some (.cells (C.map eN).toArray 3 (0,0))):=a1;clear d6 h9 a1)
     all_goals (
      obtain⟨w5,n3⟩:∃ w5,w5=w4.setCell ⟨w2.heap.size,4,none⟩ (.slice (some ⟨g4,0,none⟩) (A.length+1) k4):=⟨_,rfl⟩
      have a3:=HA.out;rw[<-n3] at a3 ⊢;have s7:Hid (LS w0 w2.heap.size M w5 v' (.slice (some ⟨g4,0,none⟩) (A.length+1) k4) D m (tk+1) (A++[fa q]) u gs):=a3.1;have t6:Hid (w5.heap[H2]?=some (.cells (C.map eN).toArray 3 (0,0))):=a3.2;have y9:=a3.1.c5;have t1:Hid (w5.ownsRow (w0.heap.size+2) 40 1 D gs.length (gs.map (jH M))):=a3.1.nr;have x6:w0.heap.size+2<=w5.heap.size:=by have:=(ZC a3.2);omega
      clear a3 n3 HA h7 e0 f0 v8 v5 l6 f6 i5 b3;go_wp2_with (at_builtin;refine aD _ rfl (.tmp 86) (.tmp 88) 31 rfl (w0.heap.size+2) 40 iL _ 1 24 underlying31 u4 t8 p6 m8 rfl Zr D gs.length (gs.map (jH M)) rfl (Zm t1.out _) ⟨w5.heap.size,0,none⟩ 1 1 [.slice (some ⟨H2,0,none⟩) M M] rfl rfl (news_of_block (Za w5 _)) Zt ω Zs ω σ _ rfl ?_;intro g6 k6 w6 n4 r8 y2;obtain⟨a1,e0,f0⟩:=s7.out.row1 (wa:=w5.alloc (.cells #[.slice (some ⟨H2,0,none⟩) M M] 40)) (q:=H2) t6.out ω j9 ZA n4 rfl r8;have HA:Hid (LS w0 w2.heap.size M (w6.setCell ⟨w2.heap.size,5,none⟩ (.slice (some ⟨g6,0,none⟩) (gs.length+1) k6)) v' (.slice (some ⟨g4,0,none⟩) (A.length+1) k4) (.slice (some ⟨g6,0,none⟩) (gs.length+1) k6) m (tk+1) (A++[fa q]) (u++[C]) (gs++[H2])):=a1;clear n4 r8 a1)
      go_step3
      refine⟨rfl,(HJ.out _ _).2 ⟨w2,w0,_,_,tk+1,m,u++[C],v',.slice (some ⟨g4,0,none⟩) (A.length+1) k4,.slice (some ⟨g6,0,none⟩) (gs.length+1) k6,gs++[H2],G.out,by rw[o7.out,<-HM.out];exact HA.out,u5.out,Q.1,σ,by rw[show 258-(tk+1)=f by omega];exact j8.out,Ce⟩,?_⟩;show 258-lG (w0.heap.size+1) _<258-lG (w0.heap.size+1) w';rw[jK HA.out.num,jK q6.out]
      omega)
def P9 (w:World) (q:Nat) (p:Pc):World:=((((((((w.setCell ⟨q,2,none⟩ (.int .u64 (p.first.x0:Int))).setCell ⟨q,3,none⟩ (.int .u64 (p.first.x1:Int))).setCell ⟨q,4,none⟩ (.int .u64 (p.first.x2:Int))).setCell ⟨q,5,none⟩ (.int .u64 (p.first.x3:Int))).setCell ⟨q,6,none⟩ (.int .u64 (p.last.x0:Int))).setCell ⟨q,7,none⟩ (.int .u64 (p.last.x1:Int))).setCell ⟨q,8,none⟩ (.int .u64 (p.last.x2:Int))).setCell ⟨q,9,none⟩ (.int .u64 (p.last.x3:Int))).setCell ⟨q,10,none⟩ (.bool p.empty)
def gq {q o o':Nat} (h:o≠o'):(w.setCell ⟨q,o,none⟩ v).cell? ⟨q,o',none⟩=w.cell? ⟨q,o',none⟩:=by simp[go_sem,Ne.symm h]
def gt (h:∃ y,w.cell? ⟨q,o,none⟩=some y):(w.setCell ⟨q,o,none⟩ v).cell? ⟨q,o,none⟩=some v:=by
 obtain⟨y,hy⟩:=h;exact cell?_setCell_same' _ _ _ (by rw[hy];rfl)
variable (w q p) in
def GP {b:Nat} (h:b≠q):(P9 w q p).heap[b]?=w.heap[b]?:=by
 unfold P9
 iterate 9 rw[ah _ _ _ _ h]
variable (w q p) in
def vO (h:o<2\/10<o):(P9 w q p).cell? ⟨q,o,none⟩=w.cell? ⟨q,o,none⟩:=by
 unfold P9
 iterate 9 rw[gq ω]
theorem KN (w:World) (p a:Addr) (v:Value):(w.setCell p v).frozen? a=w.frozen? a:=by simp[go_sem]
variable (w q p a) in
def LC:(P9 w q p).frozen? a=w.frozen? a:=by
 unfold P9
 iterate 9 rw[KN]
def GQ {a w:World} (h:cd S a w)  (hs:S q) (v:Value):cd S a (w.setCell ⟨q,o,none⟩ v):=
 ⟨h.os,h.tape,h.output,by rw[cQ];exact h.size,λb hb hn=>(ah _ _ _ _ (by rintro rfl;exact hn hs)).trans (h.block b hb hn)⟩
variable (w q p) in
def KO:cd (λb=>b=q) w (P9 w q p):=by
 unfold P9
 iterate 9 refine GQ (S:=λb=>b=q) ?_ (q:=q) rfl _
 exact cd.refl _ _
def LD (p:Pc) (h:∀ o,2<=o->o<=10->∃ y,w.cell? ⟨q,o,none⟩=some y) :
  (P9 w q p).cell? ⟨q,2,none⟩=some (.int .u64 (p.first.x0:Int))/\(P9 w q p).cell? ⟨q,3,none⟩=some (.int .u64 (p.first.x1:Int))/\(P9 w q p).cell? ⟨q,4,none⟩=some (.int .u64 (p.first.x2:Int))/\(P9 w q p).cell? ⟨q,5,none⟩=some (.int .u64 (p.first.x3:Int))/\(P9 w q p).cell? ⟨q,6,none⟩=some (.int .u64 (p.last.x0:Int))/\(P9 w q p).cell? ⟨q,7,none⟩=some (.int .u64 (p.last.x1:Int))/\(P9 w q p).cell? ⟨q,8,none⟩=some (.int .u64 (p.last.x2:Int))/\(P9 w q p).cell? ⟨q,9,none⟩=some (.int .u64 (p.last.x3:Int))/\(P9 w q p).cell? ⟨q,10,none⟩=some (.bool p.empty):=by
 unfold P9;have k:∀ {W:World}{o o':Nat}{v:Value},(∃ y,W.cell? ⟨q,o',none⟩=some y)->∃ y,(W.setCell ⟨q,o,none⟩ v).cell? ⟨q,o',none⟩=some y:=λ{W o o' v} hy=>by
  by_cases e:o=o'
  .subst e;exact⟨v,gt hy⟩
  .rw[gq e];exact hy
 refine⟨?_,?_,?_,?_,?_,?_,?_,?_,?_⟩
 .iterate 8 rw[gq ω]
  exact gt (h _ ω ω)
 .iterate 7 rw[gq ω]
  exact gt (k (h _ ω ω))
 .iterate 6 rw[gq ω]
  exact gt (k (k (h _ ω ω)))
 .iterate 5 rw[gq ω]
  exact gt (k (k (k (h _ ω ω))))
 .iterate 4 rw[gq ω]
  exact gt (k (k (k (k (h _ ω ω)))))
 .iterate 3 rw[gq ω]
  exact gt (k (k (k (k (k (h _ ω ω))))))
 .iterate 2 rw[gq ω]
  exact gt (k (k (k (k (k (k (h _ ω ω)))))))
 .rw[gq ω];exact gt (k (k (k (k (k (k (k (h _ ω ω))))))))
 .exact gt (k (k (k (k (k (k (k (k (h _ ω ω)))))))))
def xZ.tab {acc:List Bool}{rows:List (List Nat)}{gs:List Nat} (h:xZ w tb K W va vn acc rows gs) {W':World} (hk:∀ b,w.heap.size<=b->W'.heap[b]?=W.heap[b]?):aS eB W' va acc/\fV eI W' vn (xo rows):=by
 refine⟨fM (ak h.ar (λb hb=>hk b (η (cH h.ar hb)))),gs.map (jH K),by rw[length_map,ie,h.gl],fM (base:=w.heap.size+2) (e:=40) ?_,λj h1 h2=>?_⟩
 .have:=ak (w':=W') h.nr (λb hb=>hk b (η (cH h.nr hb)))
  simpa using this
 .have d:j<gs.length:=by simpa using h1
  have c:j<rows.length:=by simpa [xo] using h2
  obtain⟨q1,q2,q3⟩:=h.rw j d c;rw[qJ rows j c,getElem_map];refine rA (.inr ⟨gs[j],0,K,by rw[q3];rfl,λi hi=>?_⟩);have e:=(hk gs[j] ω).trans q1;simp[cell?,e,hi]
structure SX (w6:World) (sb:Nat) (vb vf:Value) (e:Ex) (s:Sr):Prop where
 c0:w6.cell? ⟨sb,0,none⟩=some vb
 bs:lP w6 (sb+1) vb e.bs
 c12:w6.cell? ⟨sb,12,none⟩=some (.slice none 0 0)
 fz:∀ o,w6.frozen? ⟨sb,o,none⟩=false
 sr:lQ w6 sb vf s
def LE {w4 w5:World}{va0 vf0 vb vf:Value}{pc:Pc}{front:Bool} (hsb:sb<w4.heap.size) (hx:ch w5 sb vb vf e) (hg:gj sb w4 va0 vf0 w5 vb vf) (h11:w4.cell? ⟨sb,11,none⟩=some (.bool front)) (h12:w4.cell? ⟨sb,12,none⟩=some (.slice none 0 0)) (hc:∀ o,2<=o->o<=10->∃ y,w4.cell? ⟨sb,o,none⟩=some y) :
  SX (P9 w5 sb pc) sb vb vf e ⟨e.fs,pc,front⟩:=by
 have c:∀ o,2<=o->o<=10->∃ y,w5.cell? ⟨sb,o,none⟩=some y:=λo h1 h2=>by rw[hg.cl hsb o h1];exact hc o h1 h2
 obtain⟨a2,a3,a4,a5,a6,a7,a8,a9,d⟩:=LD pc c;obtain⟨ws,b1,b2⟩:=hx.bs;refine⟨(vO _ _ _ (.inl ω)).trans hx.c0,⟨ws,b1.blk (λb hb=>GP _ _ _ ?_),b2⟩,?_,λo=>(LC _ _ _ _).trans (hx.fz o),⟨(vO _ _ _ (.inl ω)).trans hx.c1,hx.fs.blk (λb hb=>GP _ _ _ ?_),a2,a3,a4,a5,a6,a7,a8,a9,d,?_⟩⟩
 .have:=b1.lt hb;omega
 .rw[vO _ _ _ (.inr ω),hg.cl hsb 12 ω];exact h12
 .have:=hx.fs.lt hb;omega
 .rw[vO _ _ _ (.inr ω),hg.cl hsb 11 ω];exact h11
def SX.classes {vb vf vr:Value}{s:Sr} (h:SX w6 sb vb vf e s) (hk:∀ o,o≠12->w7.cell? ⟨sb,o,none⟩=w6.cell? ⟨sb,o,none⟩) (hx:cd (λb=>b=sb) w6 w7):lQ w7 sb vf s:=by
 obtain⟨k1,kf,k2,k3,k4,k5,k6,k7,k8,k9,c,d⟩:=h.sr;refine⟨(hk 1 ω).trans k1,kf.blk (λb hb=>hx.block b (kf.lt hb).2 (η ((kf.lt hb).1))),(hk 2 ω).trans k2,(hk 3 ω).trans k3,(hk 4 ω).trans k4,(hk 5 ω).trans k5,(hk 6 ω).trans k6,(hk 7 ω).trans k7,(hk 8 ω).trans k8,(hk 9 ω).trans k9,(hk 10 ω).trans c,(hk 11 ω).trans d⟩
def GR {base base':Nat}{e:TypeId}{size:Nat}{xs:List Value} (h:w.ownsRow base e size v n xs) (hb:base'<=base):w.ownsRow base' e size v n xs:=by
 refine⟨h.1,?_⟩;rcases h.2 with q|⟨g,d,c,h1,h2,h3⟩
 .exact .inl q
 .exact .inr ⟨g,d,c,h1,Zc hb h2,h3⟩
open Sx (aO dw)
def T6 (w:World) (q:Nat) (a0 a1 a2 a3 a4 a5:Value):World:=(((((w.setCell ⟨q,0,none⟩ a0).setCell ⟨q,1,none⟩ a1).setCell ⟨q,2,none⟩ a2).setCell ⟨q,3,none⟩ a3).setCell ⟨q,4,none⟩ a4).setCell ⟨q,5,none⟩ a5
def vP {b0 b1 b2 b3 b4 b5:Value} (a0 a1 a2 a3 a4 a5:Value) {T:TypeId}{fr:Nat×Nat} (h:w.heap[q]?=some (.cells #[b0,b1,b2,b3,b4,b5] T fr)):(T6 w q a0 a1 a2 a3 a4 a5).heap[q]?=some (.cells #[a0,a1,a2,a3,a4,a5] T fr):=by
 unfold T6;rw[ap (ap (ap (ap (ap (ap h)))))]
 simp
def GS (w:World) (q:Nat) (a0 a1 a2 a3 a4 a5:Value) {b:Nat} (h:b≠q):(T6 w q a0 a1 a2 a3 a4 a5).heap[b]?=w.heap[b]?:=by
 unfold T6
 iterate 6 rw[ah _ _ _ _ h]
def ng (a0 a1 a2 a3 a4 a5:Value) (h:Below B w w2) (hq:B<=q):Below B w (T6 w2 q a0 a1 a2 a3 a4 a5):=by
 unfold T6;exact(((((h.setCell hq _).setCell hq _).setCell hq _).setCell hq _).setCell hq _).setCell hq _
def pJ {w w':World} (hx:cd S w w') (h:∀ b,b<B->¬ S b) (hB:B<=w.heap.size):Below B w w':=⟨hx.os,hx.tape,hx.output,hx.size,λb hb=>hx.block b ω (h b hb)⟩
structure CR (w2 w6 w7:World) (sb B:Nat) (vf vr:Value) (s:Sr) (rs:List W4):Prop where
 low:Below sb w2 w7
 sr:lQ w7 sb vf s
 c12:w7.cell? ⟨sb,12,none⟩=some vr
 rf:dq 150 w7 B vr rs
 lt:sb<w6.heap.size
 B6:w6.heap.size<=B
 fl:∀ g,vf.ownBlock=some g->g<w6.heap.size
 sz:B<=w7.heap.size
theorem SX.below {s:Sr} (h:SX w6 sb vb vf e s) (hb:Below w6.heap.size w6 W):SX W sb vb vf e s:=by
 have c:=aF h.c0;obtain⟨ws,b1,b2⟩:=h.bs;refine⟨cell_below hb h.c0,⟨ws,b1.blk (λb hb'=>hb.block b (b1.lt hb').2),b2⟩,cell_below hb h.c12,λo=>?_,h.sr.below hb⟩;rw[<-h.fz o];simp[frozen?,hb.block sb c]
def rK {s:Sr} (hlow:Below sb w2 w6) (h6:SX w6 sb vb vf e s) (hW:Below w6.heap.size w6 W) (hl:e.bs.length<=64) (rd rs:List W4) (hrd:rd=eS e.bs) (hrs:rs=ai [] rd) :
  Calls prog 74 #[.pointer (some ⟨sb,0,none⟩)] W λr w7=>r=.returned (.string (ba ((rd.map rs.idxOf).map UInt8.ofNat)))/\∃ vr,CR w2 w6 w7 sb W.heap.size vf vr s rs/\cd (λb=>b=sb) W w7:=by
 have c:=aF h6.c0;have h:=h6.below hW;have hz:=hW.size;refine(xP W sb (sb+1) vb e.bs hl h.c0 h.bs ω h.c12 h.fz).mono ?_;rintro r w7 ⟨rfl,vr,h1,h2,h3,h4,h5⟩;refine⟨?_,vr,⟨(hlow.trans (hW.mono ω)).trans (pJ h5 (λb hb=>ω) ω),h.classes (vr:=vr) h3 h5,h1,?_,c,hz,λg hg=>(h6.sr.fs.lt hg).2,h5.size⟩,h5⟩
 .simp_all
 .simp_all
def I_ {s:Sr}{cls:List UInt8}{T:TypeId} (h:CR w2 w6 w7 sb B vf vr s rs) (hT:TabZ w7) (h1:1<sb) (ok:Gi n s) (rk:∀ r∈rs,Sp n r) (rl:rs.length<=256) (ht:(tb=w6.heap.size/\tb<B)\/tb=w7.heap.size)
  (hk:∀ b,b<w7.heap.size->b≠tb->W.heap[b]?=w7.heap[b]?) (hb:W.heap[tb]?=some (.cells (tC f b cls (.slice none 0 0) (.slice none 0 0)) T)):DV W sb tb vf vr s n rs:=by
 have z1:=h.lt;have z2:=h.B6;have z3:=h.sz;have c:dq 150 w7 (sb+1) vr rs:=GR h.rf ω;have nr:∀ {g},vr.ownBlock=some g->g≠tb:=λ{g} q=>by have:=h.rf.lt q;omega
 have nf:∀ {g},vf.ownBlock=some g->g≠tb:=λ{g} q=>by have:=h.fl g q;omega
 have ks:W.heap[sb]?=w7.heap[sb]?:=hk sb ω ω;refine⟨hT.keep (hk 1 hT.lt ω),h1,ω,h.sr.keep ks (λb hb'=>hk b (h.sr.fs.lt hb').2 (nf hb')),ok,?_,c.blk (λb hb'=>hk b (c.lt hb').2 (nr hb')),λq=>nr q rfl,λq=>nf q rfl,rk,rl,?_,?_,λo=>?_⟩
 .rw[<-h.c12];simp[cell?,ks]
 .exact(dH hb).2.2.2.2.1
 .exact(dH hb).2.2.2.2.2
 .simp only[frozen?,hb];simp
abbrev zT:Value:=.agg #[.bool false,.bool false,.int .i64 0,.string ⟨#[]⟩,.slice none 0 0,.slice none 0 0]
def yi (w:World) (p:Sx.sT) (a0:Option Addr) (c0:Nat) (limit:Nat) (hl:1<=limit/\limit<=200) (hT:TabZ w) (hsz:1<w.heap.size) (htr:aX p.choices) (hrep:Sx.dU w (λg=>g<w.heap.size) p.choices (.slice a0 p.choices.length c0)) :
  Calls prog 41 #[.agg #[.bool p.front,.bool p.back,.slice a0 p.choices.length c0],.int .i64 (limit:Int)] w λe w'=>Below w.heap.size w w'/\((bS p limit=none/\e=.returned (.tuple #[zT,.bool false]))\/∃ t va vn,bS p limit=some t/\e=.returned (.tuple #[tv (fm t) va vn,.bool true])/\cJ w' (fm t) va vn):=by
 obtain⟨w1,E⟩:=zx ((w.alloc (.cells #[.bool p.front,.bool p.back,.slice a0 p.choices.length c0] 87)).alloc (.cells #[.bool false,.bool false,.int .i64 0,.string ⟨#[]⟩,.slice none 0 0,.slice none 0 0] 33));have V:Below w.heap.size w w1:=by rw[E];exact ZA.alloc χ _
 have F:=xG p.choices htr w1 w.heap.size (.slice a0 p.choices.length c0) V.size (gm hrep V);have d7:=zh E;have g8:=zh V;have f6:w1.heap.size=w.heap.size+2:=by rw[E];simp
 have d3:w1.heap[w.heap.size+1]?=some (.cells #[.bool false,.bool false,.int .i64 0,.string ⟨#[]⟩,.slice none 0 0,.slice none 0 0] 33):=by
  rw[E];have:=Za (w.alloc (.cells #[.bool p.front,.bool p.back,.slice a0 p.choices.length c0] 87)) (.cells #[.bool false,.bool false,.int .i64 0,.string ⟨#[]⟩,.slice none 0 0,.slice none 0 0] 33)
  simpa using this
 have e5:w1.heap[w.heap.size]?=some (.cells #[.bool p.front,.bool p.back,.slice a0 p.choices.length c0] 87):=by rw[E,Ze _ _ _ χ];exact Za w _
 have a5:Hid (∀ W,Below w1.heap.size w1 W->W.heap[w.heap.size]?=some (.cells #[.bool p.front,.bool p.back,.slice a0 p.choices.length c0] 87)/\W.heap[w.heap.size+1]?=some (.cells #[.bool false,.bool false,.int .i64 0,.string ⟨#[]⟩,.slice none 0 0,.slice none 0 0] 33)/\w.heap.size+2<=W.heap.size):=λW hb=>⟨(hb.block _ ω).trans e5,(hb.block _ ω).trans d3,by have:=hb.size;omega⟩
 have c3:Hid (∀ W,Below w1.heap.size w1 W->Below w.heap.size w W):=λW hb=>V.trans (hb.mono ω)
 clear E V f6 e5 d3;obtain⟨N,hN⟩:=zx (aY p.choices);have HN:=zh hN;rw[<-hN] at F;clear hN
 by_cases h64:64<N
 .have u:dJ N=65:=by unfold dJ;omega
  rw[u] at F;have c1:Hid (bS p limit=none):=by show _=_;unfold bS;rw[Zi (by rw[<-HN.out];exact h64)]
  clear u
  go_enter func41,ntmps41
  go_wp2_with (go_at_call 72;rw[<-d7.out];refine F.mono ?_;rintro e w2 ⟨rfl,m⟩;have P:=zh m;obtain⟨-,y1,-⟩:=a5.out w2 m;have Y1:=zh y1;have y3:∀ o,w2.frozen? ⟨w.heap.size+1,o,none⟩=false:=(λo=>by simp[frozen?,y1]);obtain⟨j0,j1,j2,j3,j4,j5⟩:=dH y1;clear m y1)
  have H:=vP (.bool false) (.bool false) (.int .i64 0) (.string ⟨#[]⟩) (.slice none 0 0) (.slice none 0 0) Y1.out;have I:=ng (.bool false) (.bool false) (.int .i64 0) (.string ⟨#[]⟩) (.slice none 0 0) (.slice none 0 0) (c3.out w2 P.out) (q:=w.heap.size+1) ω;change bodyPost _ _ _ _ _ (T6 w2 (w.heap.size+1) (.bool false) (.bool false) (.int .i64 0) (.string ⟨#[]⟩) (.slice none 0 0) (.slice none 0 0));obtain⟨q0,q1,q2,q3,q4,q5⟩:=dH H;generalize T6 w2 (w.heap.size+1) (.bool false) (.bool false) (.int .i64 0) (.string ⟨#[]⟩) (.slice none 0 0) (.slice none 0 0)=Wf at *;refine Zb (v:=.tuple #[.agg #[.bool false,.bool false,.int .i64 0,.string ⟨#[]⟩,.slice none 0 0,.slice none 0 0],.bool false]) (by simp[results,results41,go_sem,q0,q1,q2,q3,q4,q5]) rfl ⟨I,.inl ⟨c1.out,rfl⟩⟩
 .have u:dJ N=N:=by unfold dJ;omega
  rw[u] at F;have g4:¬(64:Int)<N:=ω;clear u;obtain⟨ob,A⟩:∃ ob:Obj,ob=.cells #[.slice none 0 0,.slice none 0 0,.int .u64 0,.int .u64 0,.int .u64 0,.int .u64 0,.int .u64 0,.int .u64 0,.int .u64 0,.int .u64 0,.bool false,.bool p.front,.slice none 0 0] 154:=⟨_,rfl⟩
  have d2:Hid (∀ w2,Below w1.heap.size w1 w2->Calls prog 73 #[.pointer (some ⟨w2.heap.size,0,none⟩),.slice a0 p.choices.length c0] (w2.alloc ob).drew (gW w2.heap.size (w2.alloc ob).drew (.slice none 0 0) (.slice none 0 0) (bF p.choices fF ⟨[],[]⟩))):=λw2 m=>by
   have g7:=(a5.out w2 m).2.2;have d6:Below w.heap.size w (w2.alloc ob).drew:=((c3.out w2 m).alloc ω _).drew;have e0:(w2.alloc ob).drew.heap[w2.heap.size]?=some ob:=Za w2 _;rw[A] at e0;refine xM p.choices htr _ w2.heap.size (.slice none 0 0) (.slice none 0 0) ⟨[],[]⟩ 0 _ ⟨hT.keep (d6.block 1 hsz),ω,⟨?_,?_,λo=>?_,⟨[],Zn _ _ _ _,rfl,λi h=>by simp at h⟩,Zn _ _ _ _⟩,⟨rfl,rfl,λx hx=>by simp at hx⟩,by rw[<-HN.out];omega⟩ ?_
   .rw[A];simp only[cell?,e0];rfl
   .rw[A];simp only[cell?,e0];rfl
   .rw[A];simp only[frozen?,e0];simp
   .exact(hrep.of_heap (λg hg _=>⟨ω,d6.block g hg⟩))
  go_enter func41,ntmps41
  go_wp2_with (go_at_call 72;rw[<-d7.out];refine F.mono ?_;rintro e w2 ⟨rfl,m⟩;have P:=zh m;obtain⟨y0,y1,y2⟩:=a5.out w2 m;have Y1:=zh y1;obtain⟨j0,j1,j2⟩:=dL y0;clear m y1 y0)
  rw[<-A];have O:=zh A;have a7:=d2.out w2 P.out;have d0:Below w2.heap.size w2 (w2.alloc ob):=ZA;have i2:=cell_below d0 j2;have M:Hid (∀ o,2<=o->o<=10->∃ y,(w2.alloc ob).cell? ⟨w2.heap.size,o,none⟩=some y):=λo h1 h2=>by
   have e0:=Za w2 ob;rw[O.out] at e0;rw[O.out];simp only[cell?,e0];rcases(by omega:o=2\/o=3\/o=4\/o=5\/o=6\/o=7\/o=8\/o=9\/o=10) with rfl|rfl|rfl|rfl|rfl|rfl|rfl|rfl|rfl<;>exact⟨_,rfl⟩
  obtain⟨pe,c2⟩:=zx (bF p.choices fF ⟨[],[]⟩);have e4:=zh c2;rw[<-c2] at a7;obtain⟨sb,a4⟩:=zx w2.heap.size;have a3:=zh a4;rw[<-a4] at a7 M y2;have J:Hid (∀ w5 vb vf,gj sb (w2.alloc ob).drew (.slice none 0 0) (.slice none 0 0) w5 vb vf->(∃ y,w5.cell? ⟨sb,2,none⟩=some y)/\(∃ y,w5.cell? ⟨sb,3,none⟩=some y)/\(∃ y,w5.cell? ⟨sb,4,none⟩=some y)/\(∃ y,w5.cell? ⟨sb,5,none⟩=some y)/\(∃ y,w5.cell? ⟨sb,6,none⟩=some y)/\(∃ y,w5.cell? ⟨sb,7,none⟩=some y)/\(∃ y,w5.cell? ⟨sb,8,none⟩=some y)/\(∃ y,w5.cell? ⟨sb,9,none⟩=some y)/\∃ y,w5.cell? ⟨sb,10,none⟩=some y):=λw5 vb vf hg=>by
   have f0:sb<(w2.alloc ob).drew.heap.size:=by rw[a3.out];show w2.heap.size<(w2.alloc ob).heap.size;simp
   have k:∀ o,2<=o->o<=10->∃ y,w5.cell? ⟨sb,o,none⟩=some y:=λo h1 h2=>by rw[hg.cl f0 o h1];exact M.out o h1 h2
   exact⟨k _ ω ω,k _ ω ω,k _ ω ω,k _ ω ω,k _ ω ω,k _ ω ω,k _ ω ω,k _ ω ω,k _ ω ω⟩
  simp only[<-a4];clear A c2 d0 j0 j1 j2 a4
  go_region_with (go_at_call 73;refine a7.mono ?_;rintro e w5 ⟨rfl,vb,vf,b6,c4⟩;obtain⟨⟨z2,l2⟩,⟨z3,l3⟩,⟨z4,l4⟩,⟨z5,l5⟩,⟨z6,l6⟩,⟨z7,l7⟩,⟨z8,l8⟩,⟨z9,l9⟩,⟨g2,e7⟩⟩:=J.out w5 vb vf c4;have fz:=b6.fz;have f3:=zh b6;have b5:=zh c4;clear b6 c4)
  obtain⟨w6,X⟩:=zx (P9 w5 sb pe.1);change Exit.then _ _ _ _ (P9 w5 sb pe.1);rw[<-X];have b3:sb<(w2.alloc ob).drew.heap.size:=by rw[a3.out];show w2.heap.size<(w2.alloc ob).heap.size;simp
  have Z:Hid (SX w6 sb vb vf pe.2 ⟨pe.2.fs,pe.1,p.front⟩):=by
   have e0:(w2.alloc ob).drew.heap[sb]?=some ob:=by rw[a3.out];exact Za w2 ob
   rw[O.out] at e0;rw[X];refine LE b3 f3.out b5.out ?_ ?_ M.out
   .rw[O.out];simp only[cell?,e0];rfl
   .rw[O.out];simp only[cell?,e0];rfl
  have a2:Hid (Below sb w2 w6):=by
   show Below sb w2 w6;have b1:Below sb w2 (w2.alloc ob).drew:=(ZB.alloc (by rw[a3.out];exact zq) _).drew
   have b2:Below sb (w2.alloc ob).drew w5:=pJ b5.out.exc (λb hb q=>by
    rcases q with q|q|q
    .omega
    .simp[Value.ownBlock] at q
    .simp[Value.ownBlock] at q) ω
   rw[X];exact(b1.trans b2).trans (pJ (KO _ _ _) (λb hb=>ω) (η b5.out.exc.size))
  have a1:=lp p.choices htr 0 ⟨[],[]⟩ fF (by rw[<-HN.out];omega) ⟨rfl,rfl,λx hx=>by simp at hx⟩ (eE.zero 0);rw[<-e4.out,<-HN.out,Nat.zero_add] at a1;have T:=zh a1;obtain⟨rd,a6⟩:=zx (eS pe.2.bs);obtain⟨rs,a8⟩:=zx (ai [] rd);have b8:=zh a6;have b7:=zh a8;have c6:pe.2.bs.length<=64:=by have:=a1.1.b;omega
  obtain⟨cls,D⟩:=zx ((rd.map rs.idxOf).map UInt8.ofNat);have d9:=zh D;have f2:Hid (Calls prog 74 #[.pointer (some ⟨sb,0,none⟩)] w6.drew λr w7=>r=.returned (.string (ba cls))/\∃ vr,CR w2 w6 w7 sb w6.heap.size vf vr ⟨pe.2.fs,pe.1,p.front⟩ rs):=by
   refine(rK a2.out Z.out ZB.drew c6 rd rs a6 a8).mono ?_;rintro r w7 ⟨e,vr,h1,-⟩;exact⟨by rw[D];exact e,vr,h1⟩
  have f1:Hid (Calls prog 74 #[.pointer (some ⟨sb,0,none⟩)] (w6.alloc (.cells #[.bool false,.bool false,.int .i64 0,.string ⟨#[]⟩,.slice none 0 0,.slice none 0 0] 33)).drew λr w7=>r=.returned (.string (ba cls))/\∃ vr,CR w2 w6 w7 sb (w6.heap.size+1) vf vr ⟨pe.2.fs,pe.1,p.front⟩ rs/\w7.heap[w6.heap.size]?=some (.cells #[.bool false,.bool false,.int .i64 0,.string ⟨#[]⟩,.slice none 0 0,.slice none 0 0] 33)):=by
   have g0:=aF Z.out.c0;have hz:∀ o,(w6.alloc o).drew.heap.size=w6.heap.size+1:=λo=>size_alloc _ _
   refine(rK a2.out Z.out ZA.drew c6 rd rs a6 a8).mono ?_;rintro r w7 ⟨e,vr,h1,h2⟩;rw[hz] at h1;exact⟨by rw[D];exact e,vr,h1,(h2.block _ (by rw[hz];omega) ω).trans (Za w6 _)⟩
  have z:Hid (∀ W,Below sb w2 W->W.heap[w.heap.size]?=some (.cells #[.bool p.front,.bool p.back,.slice a0 p.choices.length c0] 87)/\W.heap[w.heap.size+1]?=some (.cells #[.bool false,.bool false,.int .i64 0,.string ⟨#[]⟩,.slice none 0 0,.slice none 0 0] 33)):=λW hb=>by
   obtain⟨h1,h2,-⟩:=a5.out w2 P.out;exact⟨(hb.block _ ω).trans h1,(hb.block _ ω).trans h2⟩
  obtain⟨m0,m1,-⟩:=dL (z.out w6 a2.out).1;have g6:=λob=>cell_below ((ZB.alloc zq ob).drew:Below w6.heap.size w6 (w6.alloc ob).drew) m0
  have g9:=λob=>cell_below ((ZB.alloc zq ob).drew:Below w6.heap.size w6 (w6.alloc ob).drew) m1
  have d:=zh (aF Z.out.c0);have b0:Hid (∀ W,Below sb w2 W->W.cell? ⟨w.heap.size,0,none⟩=some (.bool p.front)/\W.cell? ⟨w.heap.size,1,none⟩=some (.bool p.back)):=λW hb=>by
   obtain⟨q0,q1,-⟩:=dL (z.out W hb).1;exact⟨q0,q1⟩
  clear X a1 a6 a8 D c6 l2 l3 l4 l5 l6 l7 l8 l9 e7 fz a7 i2 J F d2 b3;go_wp2
  go_cut [7] from 26 to 32 (λu7 wc=>∃ w7 tb B vr,u7=.pointer (some ⟨tb,0,none⟩)/\CR w2 w6 w7 sb B vf vr ⟨pe.2.fs,pe.1,p.front⟩ rs/\((tb=w6.heap.size/\tb<B)\/tb=w7.heap.size)/\(∀ b,b<w7.heap.size->b≠tb->wc.heap[b]?=w7.heap[b]?)/\wc.heap[tb]?=some (.cells #[.bool p.front,.bool p.back,.int .i64 0,.string (ba cls),.slice none 0 0,.slice none 0 0] 33)/\Below sb w2 wc)
  case first=>
   go_region_held3 (λw'=>w'.cell? ⟨w.heap.size,0,none⟩=some (.bool p.front)/\w'.cell? ⟨w.heap.size,1,none⟩=some (.bool p.back)) (first|exact b0.out _ ((by(repeat first|(with_reducible refine Below.setCell ?_ (by first|(have:=d.out;simp;omega)|(have:=c.out.sz;have:=c.out.B6;have:=d.out;simp;omega)) _)|(with_reducible refine Below.alloc ?_ (by first|(have:=d.out;omega)|(have:=c.out.sz;have:=c.out.B6;have:=d.out;omega)) _)|(with_reducible refine Below.drew ?_));exact a2.out))|exact b0.out _ ((by(repeat first|(with_reducible refine Below.setCell ?_ (by first|(have:=d.out;simp;omega)|(have:=c.out.sz;have:=c.out.B6;have:=d.out;simp;omega)) _)|(with_reducible refine Below.alloc ?_ (by first|(have:=d.out;omega)|(have:=c.out.sz;have:=c.out.B6;have:=d.out;omega)) _)|(with_reducible refine Below.drew ?_));exact c.out.low))) ((go_at_call 74;first|(refine f1.out.mono ?_;rintro e w7 ⟨rfl,vr,j,Q⟩;have d8:=zh Q;have f9:∀ o,w7.frozen? ⟨w6.heap.size,o,none⟩=false:=(λo=>by simp[frozen?,d8.out]);obtain⟨x0,x1,x2,x3,x4,x5⟩:=dH Q;have c:=zh j;obtain⟨n0,n1,-⟩:=dL (z.out w7 j.low).1;clear Q j)|(refine f2.out.mono ?_;rintro e w7 ⟨rfl,vr,j⟩;have c:=zh j;obtain⟨n0,n1,-⟩:=dL (z.out w7 j.low).1;have g5:=(λob=>cell_below (ZB.alloc zq ob:Below w7.heap.size w7 (w7.alloc ob)) n0);have g1:=(λob=>cell_below (ZB.alloc zq ob:Below w7.heap.size w7 (w7.alloc ob)) n1);clear j)))
   .go_wp2
    go_meet
    exact⟨w7,_,_,vr,rfl,c.out,.inr rfl,λb hb _=>Ze _ _ _ hb,Za w7 _,c.out.low.alloc (by have:=c.out.sz;have:=c.out.B6;have:=d.out;omega) _⟩
   .have f4:=vP (.bool p.front) (.bool p.back) (.int .i64 0) (.string (ba cls)) (.slice none 0 0) (.slice none 0 0) d8.out;have e6:=ng (.bool p.front) (.bool p.back) (.int .i64 0) (.string (ba cls)) (.slice none 0 0) (.slice none 0 0) c.out.low (q:=w6.heap.size) (η d.out);have f8:=λb hb=>GS w7 w6.heap.size (.bool p.front) (.bool p.back) (.int .i64 0) (.string (ba cls)) (.slice none 0 0) (.slice none 0 0) (b:=b) hb
    change Exit.then _ _ _ _ (T6 w7 w6.heap.size (.bool p.front) (.bool p.back) (.int .i64 0) (.string (ba cls)) (.slice none 0 0) (.slice none 0 0));generalize T6 w7 w6.heap.size (.bool p.front) (.bool p.back) (.int .i64 0) (.string (ba cls)) (.slice none 0 0) (.slice none 0 0)=W8 at *;go_wp2
    go_meet
    exact⟨w7,_,_,vr,rfl,c.out,.inl ⟨rfl,lt_succ_self _⟩,λb hb hne=>f8 b hne,f4,e6⟩
  case rest=>
   obtain⟨w7,tb,B,vr,rfl,j,d1,hk,C,b9⟩:=hcut;have g3:w.heap.size+2<=sb:=y2;have U:=c3.out w2 P.out;have Q:sb<w7.heap.size:=by have:=j.sz;have:=j.B6;have:=j.lt;omega
   have d4:sb<tb:=by have:=j.lt;omega
   have a9:=(ZC C)
   have d5:=hT.keep ((j.low.block 1 ω).trans (U.block 1 hsz));have b4:DV wc sb tb vf vr ⟨pe.2.fs,pe.1,p.front⟩ N rs:=by
    refine I_ j d5 ω ⟨T.out.1.f,ω,T.out.1.s,T.out.2⟩ ?_ ?_ d1 hk C
    .intro r hr;rw[b7.out,b8.out] at hr;rcases aH.1 hr with q|q
     .simp at q
     .unfold eS at q;obtain⟨b,-,rfl⟩:=mem_map.1 q;exact(vC b pe.2.bs 0 W4.none (by rw[T.out.1.b];omega) (Sp.none 0)).mono (by rw[T.out.1.b];omega)
    .have:=c_ [] rd;rw[<-b7.out,b8.out] at this
     simpa [eS] using this
   obtain⟨R,hR⟩:=zx (bG (bq ⟨pe.2.fs,pe.1,p.front⟩) rs limit 202 [fw pe.1.first pe.1.empty] 0 []);have hs:=AN wc sb tb vf vr ⟨pe.2.fs,pe.1,p.front⟩ N rs limit hl b4 R hR;have c7:Hid (∀ W,cd (λb=>b=tb) wc W->W.heap[w.heap.size+1]?=some (.cells #[.bool false,.bool false,.int .i64 0,.string ⟨#[]⟩,.slice none 0 0,.slice none 0 0] 33)/\Below w.heap.size w W):=λW hx=>by
    refine⟨(hx.block _ ω ω).trans (z.out wc b9).2,U.trans ((b9.trans (pJ hx (λb hb=>ω) ω)).mono ω)⟩
   have e9:=zh C;have Y:Hid (bS p limit=R.map λx=>⟨p.front,p.back,rd.map rs.idxOf,x.1.map (·.ends),x.2⟩):=by
    show _=_;unfold bS;rw[Zh (by rw[<-HN.out];exact h64),<-e4.out,<-b8.out,<-b7.out,<-hR]
    cases R<;>rfl
   have f5:Hid (w.heap.size+1<sb/\sb<tb/\tb<wc.heap.size):=⟨ω,d4,a9⟩
   clear j d1 hk C b9 b4 d5 hR U d4 a9 Q
   cases hR:R with
   |none=>
    rw[hR] at hs Y
    have HS:Hid (Calls prog 75 #[.pointer (some ⟨sb,0,none⟩),.pointer (some ⟨tb,0,none⟩),.int .i64 (limit:Int)] wc λe w'=>e=.returned (.bool false)/\cd (λb=>b=tb) wc w'):=hs.mono (by
     rintro e w' (⟨-,q1,q2⟩|⟨x,va,vn,gs,q,-⟩)
     .exact⟨q1,q2⟩
     .cases q)
    clear hs hR;go_wp2_with (go_at_call 75;refine HS.out.mono ?_;rintro e w8 ⟨rfl,e3⟩;obtain⟨y1,yb⟩:=c7.out w8 e3;have Y8:=zh y1;have YB:=zh yb;have y3:∀ o,w8.frozen? ⟨w.heap.size+1,o,none⟩=false:=(λo=>by simp[frozen?,Y8.out]);obtain⟨j0,j1,j2,j3,j4,j5⟩:=dH y1;clear e3 y1 yb)
    have H:=vP (.bool false) (.bool false) (.int .i64 0) (.string ⟨#[]⟩) (.slice none 0 0) (.slice none 0 0) Y8.out;have I:=ng (.bool false) (.bool false) (.int .i64 0) (.string ⟨#[]⟩) (.slice none 0 0) (.slice none 0 0) YB.out (q:=w.heap.size+1) ω;change bodyPost _ _ _ _ _ (T6 w8 (w.heap.size+1) (.bool false) (.bool false) (.int .i64 0) (.string ⟨#[]⟩) (.slice none 0 0) (.slice none 0 0));obtain⟨q0,q1,q2,q3,q4,q5⟩:=dH H;generalize T6 w8 (w.heap.size+1) (.bool false) (.bool false) (.int .i64 0) (.string ⟨#[]⟩) (.slice none 0 0) (.slice none 0 0)=Wf at *;refine Zb (v:=.tuple #[.agg #[.bool false,.bool false,.int .i64 0,.string ⟨#[]⟩,.slice none 0 0,.slice none 0 0],.bool false]) (by simp[results,results41,go_sem,q0,q1,q2,q3,q4,q5]) rfl ⟨I,.inl ⟨Y.out,rfl⟩⟩
   |some x=>
    rw[hR] at hs Y
    have HS:Hid (Calls prog 75 #[.pointer (some ⟨sb,0,none⟩),.pointer (some ⟨tb,0,none⟩),.int .i64 (limit:Int)] wc λe w'=>∃ va vn gs aa L ac na G nc,e=.returned (.bool true)/\va=.slice aa L ac/\vn=.slice na G nc/\xZ wc tb rs.length w' va vn (x.1.map (·.ends)) x.2 gs):=hs.mono (by
     rintro e w' (⟨q,-⟩|⟨x2,va,vn,gs,q,q1,q2⟩)
     .cases q
     .injection q with q;subst q;obtain⟨aa,ac,e1⟩:=lV q2.ar;obtain⟨na,nc,e2⟩:=lV q2.nr;exact⟨va,vn,gs,aa,_,ac,na,_,nc,q1,e1,e2,q2⟩)
    clear hs hR;go_wp2_with (go_at_call 75;refine HS.out.mono ?_;rintro e w8 ⟨va,vn,gs,aa,L,ac,na,G,nc,rfl,ea,en,l⟩;obtain⟨y1,yb⟩:=c7.out w8 l.ex;have Y8:=zh y1;have YB:=zh yb;have y3:∀ o,w8.frozen? ⟨w.heap.size+1,o,none⟩=false:=(λo=>by simp[frozen?,Y8.out]);obtain⟨j0,j1,j2,j3,j4,j5⟩:=dH y1;obtain⟨r0,r1,r2,r3,-,-⟩:=dH e9.out;have k0:=(l.cs 0 ω ω).trans r0;have k1:=(l.cs 1 ω ω).trans r1;have k2:=(l.cs 2 ω ω).trans r2;have k3:=(l.cs 3 ω ω).trans r3;have k4:=l.c4;have k5:=l.c5;have c8:=zh l;rw[ea] at k4;rw[en] at k5;have c9:Hid (va=.slice aa L ac/\vn=.slice na G nc):=⟨ea,en⟩;clear ea en l y1 yb r0 r1 r2 r3)
    have H:=vP (.bool p.front) (.bool p.back) (.int .i64 0) (.string (ba cls)) (.slice aa L ac) (.slice na G nc) Y8.out;have I:=ng (.bool p.front) (.bool p.back) (.int .i64 0) (.string (ba cls)) (.slice aa L ac) (.slice na G nc) YB.out (q:=w.heap.size+1) ω;have f7:=λb hb=>GS w8 (w.heap.size+1) (.bool p.front) (.bool p.back) (.int .i64 0) (.string (ba cls)) (.slice aa L ac) (.slice na G nc) (b:=b) hb
    change bodyPost _ _ _ _ _ (T6 w8 (w.heap.size+1) (.bool p.front) (.bool p.back) (.int .i64 0) (.string (ba cls)) (.slice aa L ac) (.slice na G nc));obtain⟨q0,q1,q2,q3,q4,q5⟩:=dH H;generalize T6 w8 (w.heap.size+1) (.bool p.front) (.bool p.back) (.int .i64 0) (.string (ba cls)) (.slice aa L ac) (.slice na G nc)=Wf at *;refine Zb (v:=.tuple #[.agg #[.bool p.front,.bool p.back,.int .i64 0,.string (ba cls),.slice aa L ac,.slice na G nc],.bool true]) (by simp[results,results41,go_sem,q0,q1,q2,q3,q4,q5]) rfl ⟨I,.inr ⟨⟨p.front,p.back,rd.map rs.idxOf,x.1.map (λy:fZ=>y.ends),x.2⟩,va,vn,Y.out,?_,?_⟩⟩
    .rw[d9.out,c9.out.1,c9.out.2];rfl
    .obtain⟨t1,t2⟩:=c8.out.tab (W':=Wf) (λb hb=>f7 b (η f5.out));exact⟨t1,t2⟩
def Ja {lo:Nat}{w1 w2:World}{g:Nat}{t:Tb}{c:Nat} (h:∀ w2,Hi lo w1 w2->mL w2 g t) (hok:jf t c) (hl:lo<=w1.heap.size) (k:Hi lo (w1.alloc (.cells #[.pointer (some ⟨g,0,none⟩)] 97)) w2):Ag w2 w1.heap.size t c:=by
 refine⟨g,?_,h w2 (((Hi.refl lo w1).alloc _).trans k),hok⟩;have e:=k.block w1.heap.size hl χ;rw[cell_of_block e];simp[go_sem]
def jX (p:Sx.sT) (limit:Nat):Option Tb:=(bS p limit).map λt=>fm (aG t)
def gX (s:List UInt8) (limit:Int):(Int×Int) ⊕ Tb:=
 if limit<1\/200<limit then .inl (2,0) else
 if 200<s.length then .inl (4,0) else
 match Sx.cz s with
 |.bad r'=>.inl (3,((s.length-r'.length:Nat):Int))
 |.ok p _=>if 20<Sx.aZ p.choices then .inl (4,0) else
  match jX p limit.toNat with
  |none=>.inl (4,0)
  |some t=>.inr t
def ui {p:Sx.sT}{limit:Nat} (hl:1<=limit) (h:bS p limit=some t):∃ n k,n<=limit/\k<=256/\iH n k t:=by
 unfold bS at h
 split at h
 .simp at h
 .split at h
  .simp at h
  .rename_i x hx;simp at h;subst h;obtain⟨h1,h2,h3,h4⟩:=mP (α:=fZ) (show[_].length<=limit from hl) (show nQ _ [_] 0 [] from⟨rfl,Zk _,λr hr=>absurd hr χ⟩) hx;have h5:=h4.length_le;simp at h5;refine⟨x.1.length,_,h1,?_,⟨ω,by simp[eS],λc hc=>?_,χ,h2,h3.r⟩⟩
   .have:=c_ [] (eS (bF p.choices fF ⟨[],[]⟩).2.bs)
    simpa [eS] using this
   .simp only[mem_map] at hc;obtain⟨y,hy,rfl⟩:=hc;exact fA hy
def yj {s:List UInt8}{p:Sx.sT}{r:List UInt8} (h:Sx.cz s=.ok p r):aX p.choices:=by
 unfold Sx.cz at h
 split at h
 .simp at h
 .rename_i cs r' hc
  split at h
  .injection h with e _;subst e;exact(MI _).1 _ _ _ hc
  .simp at h
def oW {n k:Nat} (h:iH n k t) (hn:n<=200) (hk:k<=256):mh (fm (aG t))=true/\qn (fm (aG t)):=by
 have hi:=Dq h hn;obtain⟨c,ok⟩:=uW hi;refine⟨hi,?_⟩;have c2:=ok.c256;have a1:=ok.a1;have a2:=ok.a2;have n1:=ok.n;have hc:=h.cl;exact⟨Zs,Zs,λr hr=>by have:=(ok.r r hr).1;unfold maxLen;omega,Zs⟩
variable (w s limit) in
def GT (h:limit<1\/200<limit) :
  Calls prog 14 #[.string s,.int .i64 limit] w λe w'=>e=.returned (.tuple #[.pointer none,.int .i64 2,.int .i64 0])/\Below w.heap.size w w':=by
 by_cases h1:limit<1
 .clear h
  go_enter func14,ntmps14
  go_wp2
  refine Zb (v:=.tuple #[.pointer none,.int .i64 2,.int .i64 0]) (by simp[results,results14,go_sem]) rfl ?_;exact⟨rfl,ZB⟩
 .have h2:200<limit:=ω
  go_enter func14,ntmps14
  go_wp2
  refine Zb (v:=.tuple #[.pointer none,.int .i64 2,.int .i64 0]) (by simp[results,results14,go_sem]) rfl ?_;exact⟨rfl,ZB⟩
variable (w s limit) in
def om (h1:¬ limit<1) (h2:¬ 200<limit) (err pl:Int) (herr:(err==0)=false) (hr:Calls prog 40 #[.string s] w λe w'=>e=.returned (.tuple #[Sx.iu false false none 0 0,.int .i64 err,.int .i64 pl])/\Below w.heap.size w w') :
  Calls prog 14 #[.string s,.int .i64 limit] w λe w'=>e=.returned (.tuple #[.pointer none,.int .i64 err,.int .i64 pl])/\Below w.heap.size w w':=by
 have HR:=zh hr
 go_enter func14,ntmps14
 go_wp2_with (go_at_call 40;refine HR.mono ?_;rintro e w1 ⟨rfl,c⟩)
 refine Zb (v:=.tuple #[.pointer none,.int .i64 err,.int .i64 pl]) (by simp[results,results14,go_sem]) rfl ?_;exact⟨rfl,c.alloc c.size _⟩
variable (w s limit) in
def DW (h1:¬ limit<1) (h2:¬ 200<limit) (f b:Bool)
  (hr:Calls prog 40 #[.string s] w λe w1=>(∃ g0 n0 c0,e=.returned (.tuple #[Sx.iu f b g0 n0 c0,.int .i64 0,.int .i64 0])/\∀ W,Below w1.heap.size w1 W->Calls prog 41 #[.agg #[.bool f,.bool b,.slice g0 n0 c0],.int .i64 limit] W λe W2=>e=.returned (.tuple #[zT,.bool false])/\Below W.heap.size W W2)/\Below w.heap.size w w1) :
  Calls prog 14 #[.string s,.int .i64 limit] w λe w'=>e=.returned (.tuple #[.pointer none,.int .i64 4,.int .i64 0])/\Below w.heap.size w w':=by
 have HR:=zh hr
 go_enter func14,ntmps14
 go_wp2_with (first|(go_at_call 41;refine(HS _ ZA).mono ?_;rintro e w2 ⟨rfl,g⟩;have d:=zh ((c.alloc c.size _).trans (g.mono (by have:=c.size;simp;omega))))|(go_at_call 40;refine HR.mono ?_;rintro e w1 ⟨⟨g0,n0,c0,rfl,hs⟩,c⟩;have HS:=zh hs))
 refine Zb (v:=.tuple #[.pointer none,.int .i64 4,.int .i64 0]) (by simp[results,results14,go_sem]) rfl ?_;exact⟨rfl,d.alloc d.size _⟩
variable (w s limit) in
def DX (h1:¬ limit<1) (h2:¬ 200<limit) (f b:Bool) (T1 T2:Tb) (hi:mh T2=true) (hsm:qn T2)
  (hr:Calls prog 40 #[.string s] w λe w1=>(∃ g0 n0 c0,e=.returned (.tuple #[Sx.iu f b g0 n0 c0,.int .i64 0,.int .i64 0])/\∀ W,Below w1.heap.size w1 W->Calls prog 41 #[.agg #[.bool f,.bool b,.slice g0 n0 c0],.int .i64 limit] W λe W2=>(∃ va vn,e=.returned (.tuple #[tv T1 va vn,.bool true])/\cJ W2 T1 va vn)/\Below W.heap.size W W2)/\Below w.heap.size w w1)
  (hl:∀ W va vn,cJ W T1 va vn->Calls prog 43 #[tv T1 va vn] W λe W'=>∃ l j,e=.returned (tv T2 l j)/\cJ W' T2 l j/\Below W.heap.size W W') :
  Calls prog 14 #[.string s,.int .i64 limit] w λe w'=>∃ m c,e=.returned (.tuple #[.pointer (some ⟨m,0,none⟩),.int .i64 0,.int .i64 0])/\(∀ w2,Hi w.heap.size w' w2->Ag w2 m T2 c)/\w.heap.size<=m/\Below w.heap.size w w':=by
 obtain⟨c,D⟩:=uW hi;have y:=zh D;have HR:=zh hr;have HL:=zh hl;have z:Hid (∀ w va vn,cJ w T2 va vn->Calls prog 42 #[tv T2 va vn] w λe w'=>∃ g,e=.returned (.tuple #[.pointer (some ⟨g,0,none⟩),.bool true])/\w.heap.size<=g/\(∀ w2,Hi w.heap.size w' w2->mL w2 g T2)/\Below w.heap.size w w'):=λw va vn h=>Fw w T2 va vn h hsm hi
 go_enter func14,ntmps14
 go_wp2_with (first|(go_at_call 42;refine(z _ _ _ I).mono ?_;rintro e w4 ⟨g4,rfl,J,A,E⟩;have HA:Hid (∀ w5,Hi w.heap.size w4 w5->mL w5 g4 T2):=(λw5 k=>A w5 (k.mono i.size));have d:=zh (i.trans (E.mono i.size)))|(go_at_call 43;refine(HL _ _ _ (G.below ZA)).mono ?_;rintro e w3 ⟨l,j,rfl,F,H⟩;have I:=zh F;have i:=zh ((r.alloc r.size _).trans (H.mono (by have:=r.size;simp;omega))))|(go_at_call 41;refine(HS _ ZA).mono ?_;rintro e w2 ⟨⟨va,vn,rfl,x⟩,C⟩;obtain⟨a,ca,a2,n2,c2,e1,e2⟩:=x.shapes;subst e1;subst e2;have G:=zh x;have r:=zh ((u.alloc u.size _).trans (C.mono (by have:=u.size;simp;omega))))|(go_at_call 40;refine HR.mono ?_;rintro e w1 ⟨⟨g0,n0,c0,rfl,hs⟩,u⟩;have HS:=zh hs))
 refine Zb (v:=.tuple #[.pointer (some ⟨w4.heap.size,0,none⟩),.int .i64 0,.int .i64 0]) (by simp[results,results14,go_sem]) rfl ?_;exact⟨_,c,rfl,λw2 k=>Ja HA y d.size k,d.size,d.alloc d.size _⟩
def Cf (w w':World) (r:(Int×Int) ⊕ Tb) (e:Ending):Prop:=match r with
 |.inl x=>e=.returned (.tuple #[.pointer none,.int .i64 x.1,.int .i64 x.2])
 |.inr t=>∃ m c,e=.returned (.tuple #[.pointer (some ⟨m,0,none⟩),.int .i64 0,.int .i64 0])/\(∀ w2,Hi w.heap.size w' w2->Ag w2 m t c)/\w.heap.size<=m
def DY {cs:List (List aO)}{g0:Option Addr}{n0 c0:Nat} (h:Sx.dU w S cs (.slice g0 n0 c0)):n0=cs.length:=by
 obtain⟨vs,⟨-,q⟩,-⟩:=h;rcases q with⟨e,h0⟩|⟨g,d,c,e,-⟩
 .injection e with _ e2 _;omega
 .injection e
variable (w s limit) in
def yl (hS:Sx.iV w) (hT:TabZ w) (hs:s.size<=maxLen) :
  Calls prog 14 #[.string s,.int .i64 limit] w λe w'=>Cf w w' (gX s.data.toList limit) e/\Below w.heap.size w w':=by
 by_cases hlim:limit<1\/200<limit
 .have hc:gX s.data.toList limit=.inl (2,0):=by unfold gX;rw[Zi hlim]
  rw[hc];exact GT w s limit hlim
 .have h1:¬ limit<1:=λh=>hlim (.inl h)
  have h2:¬ 200<limit:=λh=>hlim (.inr h)
  have l:s.data.toList.length=s.size:=χ;have hr:=Sx.E8 w s hS hs;unfold gX;rw[Zh hlim,l]
  by_cases h200:200<s.size
  .rw[Zi h200];refine om w s limit h1 h2 4 0 rfl (hr.mono ?_);rintro e w' ⟨q|q|q|q,hb⟩
   .exact⟨q.2,hb⟩
   .exact absurd q.1 ω
   .exact absurd q.1 ω
   .exact absurd q.1 ω
  .rw[Zh h200]
   cases hR:Sx.cz s.data.toList with
   |bad r'=>
    simp only
    refine om w s limit h1 h2 3 _ rfl (hr.mono ?_);rintro e w' ⟨q|⟨-,r2,q1,q2⟩|⟨-,p,q1,-⟩|⟨-,p,q1,-⟩,hb⟩
    .exact absurd q.1 h200
    .rw[hR] at q1;injection q1 with q1;subst q1;exact⟨q2,hb⟩
    .rw[hR] at q1;cases q1
    .rw[hR] at q1;cases q1
   |ok p r'=>
    obtain rfl:=Sx.me hR
    simp only
    by_cases hn:20<Sx.aZ p.choices
    .rw[Zi hn];refine om w s limit h1 h2 4 0 rfl (hr.mono ?_);rintro e w' ⟨q|⟨-,r2,q1,q2⟩|⟨-,p2,q1,q2,q3⟩|⟨-,p2,q1,q2,-⟩,hb⟩
     .exact absurd q.1 h200
     .rw[hR] at q1;cases q1
     .exact⟨q3,hb⟩
     .rw[hR] at q1;injection q1 with q1;subst q1;omega
    .rw[Zh hn];obtain⟨n,rfl⟩:∃ n:Nat,limit=n:=⟨limit.toNat,ω⟩
     have hl:1<=n/\n<=200:=ω;rw[Int.toNat_natCast];have d:Calls prog 40 #[.string s] w λe w1=>(∃ g0 n0 c0,e=.returned (.tuple #[Sx.iu p.front p.back g0 n0 c0,.int .i64 0,.int .i64 0])/\∀ W,Below w1.heap.size w1 W->Calls prog 41 #[.agg #[.bool p.front,.bool p.back,.slice g0 n0 c0],.int .i64 (n:Int)] W λe W2=>Below W.heap.size W W2/\((bS p n=none/\e=.returned (.tuple #[zT,.bool false]))\/∃ t va vn,bS p n=some t/\e=.returned (.tuple #[tv (fm t) va vn,.bool true])/\cJ W2 (fm t) va vn))/\Below w.heap.size w w1:=by
      refine hr.mono ?_;rintro e w1 ⟨q|⟨-,r2,q1,q2⟩|⟨-,p2,q1,q2,q3⟩|⟨-,p2,q1,q2,g0,n0,c0,q3,q4⟩,hb⟩
      .exact absurd q.1 h200
      .rw[hR] at q1;cases q1
      .rw[hR] at q1;injection q1 with q1;subst q1;omega
      .rw[hR] at q1;injection q1 with q1;subst q1;obtain rfl:=DY q3;have hz:=hb.size;have ht:=hT.lt;refine⟨⟨g0,_,c0,q4,λW hW=>?_⟩,hb⟩;have r:=hW.size;exact yi W p g0 c0 n hl (hT.keep ((hW.block 1 ω).trans (hb.block 1 ht))) ω (yj hR) (q3.of_heap (λg hg hlt=>⟨ω,hW.block g hlt⟩))
     cases hM:bS p n with
     |none=>
      have hc:jX p n=none:=by unfold jX;rw[hM];rfl
      rw[hc]
      simp only
      refine DW w s n h1 h2 p.front p.back (d.mono ?_);rintro e w1 ⟨⟨g0,n0,c0,q1,q2⟩,hb⟩;refine⟨⟨g0,n0,c0,q1,λW hW=>(q2 W hW).mono ?_⟩,hb⟩;rintro e W2 ⟨i,⟨-,q⟩|⟨t,va,vn,q,-⟩⟩
      .exact⟨q,i⟩
      .rw[hM] at q;cases q
     |some t=>
      have hc:jX p n=some (fm (aG t)):=by unfold jX;rw[hM];rfl
      rw[hc]
      simp only
      obtain⟨m,k,hm,hk,j⟩:=ui hl.1 hM;obtain⟨i1,i2⟩:=oW j ω hk;refine(DX w s n h1 h2 p.front p.back (fm t) (fm (aG t)) i1 i2 (d.mono ?_) (λW va vn ht=>AO W t m k j ω hk va vn ht.acc ht.next)).mono ?_
      .rintro e w1 ⟨⟨g0,n0,c0,q1,q2⟩,hb⟩;refine⟨⟨g0,n0,c0,q1,λW hW=>(q2 W hW).mono ?_⟩,hb⟩;rintro e W2 ⟨i,⟨q,-⟩|⟨t2,va,vn,q,q3,q4⟩⟩
       .rw[hM] at q;cases q
       .rw[hM] at q;injection q with q;subst q;exact⟨⟨va,vn,q3,q4⟩,i⟩
      .rintro e w' ⟨g,c,q1,q2,q3,q4⟩;exact⟨⟨g,c,q1,q2,q3⟩,q4⟩
def ME:Bool:=match gX [97] 2 with
 |.inr t=>!(fW t [120,97]).isEmpty&&t.acc==[false,true]
 |.inl _=>false
def Mp:ME=true:=κ
def Mq:∃ t,gX [97] 2=.inr t/\(fW t [120,97]).isEmpty=false/\t.acc=[false,true]:=by
 have h:=Mp;unfold ME at h
 split at h
 .rename_i t ht;simp only[Bool.and_eq_true,beq_iff_eq,Bool.not_eq_true'] at h;exact⟨t,ht,h.1,h.2⟩
 .cases h
def uj (w:World) (hS:Sx.iV w) (hT:TabZ w) :
  Calls prog 13 #[] w λe w'=>e=.returned (.bool true)/\Below w.heap.size w w':=by
 obtain⟨t,ht,h1,h2⟩:=Mq;have hc:=yl w ⟨#[97]⟩ 2 hS hT Zr;rw[show(⟨#[97]⟩:ByteArray).data.toList=[97] from rfl,ht] at hc;have HC:=zh hc;have y:Hid (∀ W m c,Ag W m t c->Calls prog 39 #[.pointer (some ⟨m,0,none⟩),.string ⟨#[120,97]⟩] W λe w'=>e=.returned (.tuple #[.bool true,.int .i64 0])/\Below W.heap.size W w'):=λW m c h=>by
  have:=xr W m t c h [120,97] Zr;rw[h1] at this;exact this
 have r:Hid (∀ W m c,Ag W m t c->Calls prog 16 #[.pointer (some ⟨m,0,none⟩)] W λe w'=>∃ tA tB n,e=.returned (.tuple #[tv t (.slice (some ⟨tA,0,none⟩) 2 2) (.slice (some ⟨tB,0,none⟩) n n),.int .i64 0])/\w'.cell? ⟨tA,0,none⟩=some (.bool false)/\w'.cell? ⟨tA,1,none⟩=some (.bool true)/\Below W.heap.size W w'):=λW m c h=>by
  refine(qQ W m t c h).mono ?_;rintro e w' ⟨tA,tB,gs,rfl,z,hb⟩;have hn:=z.na;rw[h2] at hn ⊢;exact⟨tA,tB,_,rfl,hn.c 0 χ,hn.c 1 χ,hb⟩
 go_enter func13,ntmps13
 go_upto_region 6 with(first|(go_at_call 39;refine(y _ _ _ (u)).mono ?_;rintro e w3 ⟨rfl,i⟩;have x:=zh (k.trans (i.mono k.size));have d0:=(i.cell (p:=⟨tA,0,none⟩) (aF d.1)).trans d.1;have d1:=(i.cell (p:=⟨tA,1,none⟩) (aF d.2)).trans d.2;obtain⟨x0,x1,x2,x3,x4,x5⟩:=dH ((i.block w2.heap.size χ).trans (Za w2 _)))|(go_at_call 16;refine(r _ _ _ l).mono ?_;rintro e w2 ⟨tA,tB,nn,rfl,c0,c1,j⟩;have d:Hid ((w2.alloc (.cells #[.bool t.front,.bool t.back,.int .i64 t.start,.string (ba t.cls),.slice (some ⟨tA,0,none⟩) 2 2,.slice (some ⟨tB,0,none⟩) nn nn] 33)).cell? ⟨tA,0,none⟩=some (.bool false)/\(w2.alloc (.cells #[.bool t.front,.bool t.back,.int .i64 t.start,.string (ba t.cls),.slice (some ⟨tA,0,none⟩) 2 2,.slice (some ⟨tB,0,none⟩) nn nn] 33)).cell? ⟨tA,1,none⟩=some (.bool true)):=⟨cell_below ZA c0,cell_below ZA c1⟩;have u:Hid (Ag (w2.alloc (.cells #[.bool t.front,.bool t.back,.int .i64 t.start,.string (ba t.cls),.slice (some ⟨tA,0,none⟩) 2 2,.slice (some ⟨tB,0,none⟩) nn nn] 33)) m t c):=(l.below j).below ZA;have k:Hid (Below w.heap.size w (w2.alloc (.cells #[.bool t.front,.bool t.back,.int .i64 t.start,.string (ba t.cls),.slice (some ⟨tA,0,none⟩) 2 2,.slice (some ⟨tB,0,none⟩) nn nn] 33))):=(g.trans (j.mono g.size)).alloc (g.trans (j.mono g.size)).size _)|(go_at_call 14;refine HC.mono ?_;rintro e w1 ⟨⟨m,c,rfl,hm,hl⟩,A⟩;have g:Hid (Below w.heap.size w w1):=A;have l:Hid (Ag w1 m t c):=hm _ (Hi.refl _ _)))
 go_wp2
 go_ret
 exact⟨rfl,x⟩
end Go.Proofs.YtbjabpodkaokjaaGreatDoor
