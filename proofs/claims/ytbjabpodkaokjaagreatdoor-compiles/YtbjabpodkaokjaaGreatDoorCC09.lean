import Derived.Test.YtbjabpodkaokjaaGreatDoorCC08
import Derived.RangeFuncNested
import Derived.RangeFuncBound
import Derived.RangeFuncCalls
import Derived.RangeFuncLeaves
import Derived.RangeFuncFrom
import Derived.Shelf.Abstract
import Derived.Shelf.RegionOpen
import Derived.OwnWalkIn
import Derived.TacticsInMore
import Derived.LoopNIn
import Derived.LoopIn
import Derived.Test.YtbjabpodkaokjaaGreatDoorCC07
set_option linter.all false
set_option maxHeartbeats 4000000
set_option maxRecDepth 100000
open List Nat Go.World Go.Proofs.Tryz
namespace Go.Proofs.YtbjabpodkaokjaaGreatDoor
open Go.RowKit Go.Shelf
variable {bl:List UInt8}{s:W4}{next:List (List Nat)}{fs:List W4}{R:Nat->Nat->Prop}{v:Value}{c base:Nat}{T:Nat->Prop}{t:W4}{is:List Nat}{k j limit q a b i:Nat}{f:W4}{r r':List UInt8}{rd:W4}{row:List Nat}{B:Nat}{T':Nat->Prop}{off size:Nat}{xs:List Value}{wa w4:World}{ls:List (List Int)}
attribute [local go_sem] Oper.semAt_some
def In (n:Nat) (g:Nat) (s:ByteArray) (w:World) :
  CallsIn Fence.wide n prog 120 #[.pointer (some ⟨g,0,none⟩),.string s] w λe w'=>e=.returned (.func (.func 171) #[] #[.pointer (some ⟨w.heap.size,0,none⟩),.pointer (some ⟨w.heap.size+1,0,none⟩)])/\w'=(w.alloc (.cells #[.pointer (some ⟨g,0,none⟩)] 92)).alloc (.cells #[.string s] 9):=by
 refine callsIn_of_wp func120 rfl trivial ?_ rfl;simp only[ntmps120,size_toArray,length_cons,length_nil,reduceAdd,reduceSub,Array.replicate_succ,Array.replicate_zero,push_toArray,append_toArray,nil_append,cons_append]
 gi_wp2
 go_ret
 exact⟨rfl,rfl⟩
def mj {β:Type}{B:Nat}{J:β->World->Prop}{s:β}{W W':World} (h:AbidesFrom B J) (hj:J s W) (hb:Below W.heap.size W W'):J s W':=
 h s W W' none hj ⟨hb.os,hb.tape,hb.output,hb.size,λk hk _=>hb.block k hk⟩ (λr e=>by cases e)
def lm {w w':World} (h:Below B w w') (n:Nat):Below B w (w'.drewN n):=⟨h.os,h.tape,h.output,h.size,h.block⟩
def Io (n:Nat) (hn:2<=n) (l H g:Nat) (t:Tb) (c:Nat) (hok:jf t c) (tx:List UInt8) (htx:tx.length<=maxLen) (J Jx:List Nat->World->Prop) (W:World)
  (hJ:AbidesFrom W.heap.size J) (hJx:AbidesFrom W.heap.size Jx)
  (hY:∀ pre x W1,J pre W1->pre.length<tx.length+1->YieldAt Fence.wide (n-1) prog l #[.int .i64 (x:Nat)] W1 λe W'=>
   (e=.returned (.bool true)/\J (pre++[x]) W'/\Kq H W1 W')\/(e=.returned (.bool false)/\Jx (pre++[x]) W'))
  (E:∀ W',Below H W W'->mL W' g t) (hsz:H+3<=W.heap.size)
  (hB1:W.cell? ⟨H+1,0,none⟩=some (.pointer (some ⟨g,0,none⟩))) (hB2:W.cell? ⟨H+2,0,none⟩=some (.string (ba tx))) (h0:J [] W) :
  CallsIn Fence.wide n prog 171 #[.func (.yield l) #[] #[],.pointer (some ⟨H+1,0,none⟩),.pointer (some ⟨H+2,0,none⟩)] W λe W'=>(∃ v,e=.returned v)/\((∃ xs,xs=fW t tx/\J xs W')\/(∃ pre,pre <+: fW t tx/\Jx pre W')):=by
 obtain⟨F,hF⟩:=zx Fence.wide;rw[<-hF] at hY ⊢;have b4:F.round=none:=by rw[hF];rfl
 have c8:F.fn 95:=by rw[hF];trivial
 have b7:F.fn 171:=by rw[hF];trivial
 have h1:1<=n:=ω;have HF:=zh hF;have V:Hid (∀ {m f:Nat}{args:Array Value}{w:World}{R:Ending->World->Prop},Calls prog f args w R->CallsIn F m prog f args w R):=λh=>by rw[hF];exact callsIn_wide.2 h
 clear hF;unfold maxLen at htx;have b2:=h_ tx;obtain⟨N,hN⟩:=zx tx.length;rw[<-hN] at b2 htx hY;have HN:=zh hN;clear hN;have b5:=(E W ZB).au;obtain⟨S0,v0,a3,_⟩:=b5;have k2:=a3.c2;have a1:=hok.s1;have a2:=hok.s2;have C:t.start=((stL t (tx.take 0):Nat):Int):=by simp[stL];omega
 rw[C] at k2;have U:=zh E;have b9:=zh hB1;have b6:=zh hB2;clear E C a3;refine callsIn_of_wp func171 rfl b7 ?_ b4;simp only[ntmps171,size_toArray,length_cons,length_nil,reduceAdd,reduceSub,Array.replicate_succ,Array.replicate_zero,push_toArray,append_toArray,nil_append,cons_append]
 gi_wp2
 gi_loopw [4,12] (λs i wr=>∃ k:Nat,i=.int .i64 k/\k<=N/\s=.int .u8 (stL t (tx.take k))/\J (eP t tx k) wr/\Kq H W wr/\H+3<=wr.heap.size) (λ_ i _=>N-(intOf i).toNat)
 case atStart=>exact⟨0,rfl,Zk _,rfl,h0,Kq.refl _ _,hsz⟩
 case round=>
  clear k2 hB1 hB2 h0;obtain⟨k,rfl,hk,rfl,a7,M,O⟩:=hrel;have HJ:=zh a7;have HK:=zh M;have E:=U wr M.bl;obtain⟨S,v,I,hS,b8⟩:=E.au;have c1:=(cell_of_block M.k1 0).trans b9;have c2:=(cell_of_block M.k2 0).trans b6;have cb:=I.c1;obtain⟨x0,x1,x2,x3,u⟩:=I.st;have q0:=u.c0;have q1:=u.c1;have q2:=u.c2;have q3:=u.c3;have Q:=hok.stL (tx.take k);have c0:=hok.a2;obtain⟨sn,a5⟩:=zx (stL t (tx.take k));rw[<-a5] at Q ⊢;have o:=Sx.uJ (.inr rfl) wr x0 x1 x2 x3 sn S ω u.wd;have a9:S sn=uX t sn:=hS sn ω;rw[a9] at o;have HE:Hid (sn=stL t (tx.take k)):=a5;clear a7 M E I u b8 a9 hS a5
  by_cases hlt:k<N
  .have c3:(k:Int)<N:=ω;have a8:k<tx.length:=by have:=HN.out;omega
   obtain⟨bk,a6⟩:=zx (tx[k]);have c4:∀ h:k<(ba tx).size,((ba tx)[k]'h).toNat=bk.toNat:=λh=>by rw[a6];rfl
   have a4:Hid (stL t (tx.take (k+1))=stp t sn bk):=by
    show _=_;rw[Zl a8,Fz,HE.out,a6]
   have z:Hid (eP t tx (k+1)=eP t tx k++if (!t.back&&uX t sn) then[k] else[]):=by
    show _=_;rw[Bu,HE.out]
   clear a6;have c9:=hok.cls bk;have c6:=bk.toNat_lt
   cases hbck:t.back with
   |true=>
    rw[hbck] at cb z
    gi_wp2
    refine⟨λ_ h=>(by cases h),?_⟩
    gi_wp2
    have K:Hid (J (eP t tx (k+1)) wr):=by
     have h:=HJ.out;show J _ _;rw[z.out];simpa using h
    have D:Hid (Kq H W wr):=HK;have y:=O;obtain⟨bn,on,cn,ar,lr,cr,d1,d2,d3,d4⟩:=uY (U wr HK.bl) hok sn Q bk;rw[HF.out];refine wpIn_wide.2 ?_
    go_quiet (fail)
    gi_wp2
    go_roundw
    case rel=>exact⟨k+1,π,ω,by rw[a4.out],mj hJ K (lm ZB nq),D.below (lm ZB nq) y,by exact y⟩
    case measure=>simp[intOf]<;>omega
   |false=>
    rw[hbck] at cb z
    cases hac:uX t sn with
    |false=>
     rw[hac] at o z
     gi_wp2_with (gi_at_call 95;refine(V o).mono ?_;rintro e w2 ⟨rfl,d⟩)
     refine⟨λ_ h=>(by cases h),?_⟩
     gi_wp2
     have K:Hid (J (eP t tx (k+1)) w2):=by
      have h:=mj hJ HJ d;show J _ _;rw[z.out];simpa using h
     have D:=zh (HK.below d O);have y:=Zc O d.size;have e1:=cell_below d c1;have e2:=cell_below d c2;obtain⟨bn,on,cn,ar,lr,cr,d1,d2,d3,d4⟩:=uY (U w2 D.bl) hok sn Q bk;clear d o;rw[HF.out];refine wpIn_wide.2 ?_
     go_quiet (fail)
     gi_wp2
     go_roundw
     case rel=>exact⟨k+1,π,ω,by rw[a4.out],mj hJ K (lm ZB nq),D.below (lm ZB nq) y,by exact y⟩
     case measure=>simp[intOf]<;>omega
    |true=>
     rw[hac] at o z
     gi_wp2_with (gi_at_call 95;refine(V o).mono ?_;rintro e w2 ⟨rfl,d⟩;obtain⟨fn,b1,P,b0,hy,hR⟩:=hY (eP t tx k) k w2 (mj hJ HJ d) (η (Fy t tx k)))
     refine hR.mono ?_;rintro e W3 (⟨rfl,Z,G⟩|⟨rfl,L⟩)
     .have K:Hid (J (eP t tx (k+1)) W3):=by
       show J _ _;rw[z.out];simpa using Z
      have b3:=zh (HK.below d O);have D:=zh (b3.trans G);have y:=Zc O (Zc d.size G.bl.size);have e1:=(cell_of_block G.k1 0).trans (cell_below d c1);have e2:=(cell_of_block G.k2 0).trans (cell_below d c2);obtain⟨bn,on,cn,ar,lr,cr,d1,d2,d3,d4⟩:=uY (U W3 D.bl) hok sn Q bk;clear d o G Z hy hR
      gi_wp2
      rw[HF.out];refine wpIn_wide.2 ?_
      go_quiet (fail)
      gi_wp2
      go_roundw
      case rel=>exact⟨k+1,π,ω,by rw[a4.out],mj hJ K (lm ZB nq),D.below (lm ZB nq) y,by exact y⟩
      case measure=>simp[intOf]<;>omega
     .gi_wp2
      refine Zb (results_none rfl _ _ _) rfl ?_;refine⟨⟨_,rfl⟩,.inr ⟨eP t tx k++[k],?_,L⟩⟩;have h:=Im t tx (k+1) ω;rw[z.out] at h
      simpa using h
  .have c7:¬(k:Int)<N:=ω;have X:k=tx.length:=by have:=HN.out;omega
   have C:stL t tx=sn:=by rw[HE.out,X,take_length]
   have Y:eP t tx k=eP t tx tx.length:=by rw[X]
   cases hac:uX t sn with
   |false=>
    rw[hac] at o;have HL:Hid (fW t tx=eP t tx k):=by show _=_;unfold fW;rw[C,hac,<-Y];simp
    clear C Y X
    gi_wp2_with (gi_at_call 95;refine(V o).mono ?_;rintro e w2 ⟨rfl,d⟩)
    go_end0
    exact⟨⟨_,rfl⟩,.inl ⟨_,HL.symm,mj hJ HJ d⟩⟩
   |true=>
    rw[hac] at o;have HL:Hid (fW t tx=eP t tx k++[N]):=by show _=_;unfold fW;rw[C,hac,<-Y,<-HN.out];simp
    clear C Y X
    gi_wp2_with (gi_at_call 95;refine(V o).mono ?_;rintro e w2 ⟨rfl,d⟩;have e2:=cell_below d c2;obtain⟨fn,b1,P,b0,hy,hR⟩:=hY (eP t tx k) N w2 (mj hJ HJ d) (η (Fy t tx k)))
    refine hR.mono ?_;rintro e W3 (⟨rfl,Z,G⟩|⟨rfl,L⟩)
    .gi_wp2
     go_end0
     exact⟨⟨_,rfl⟩,.inl ⟨_,HL.symm,Z⟩⟩
    .gi_wp2
     go_end0
     exact⟨⟨_,rfl⟩,.inr ⟨_,by rw[HL.out];exact prefix_refl _,L⟩⟩
attribute [local go_sem] Oper.semAt_some
def all_in (n:Nat) (s:W4) (w:World) :
  CallsIn Fence.wide n prog 184 #[lW s.x0 s.x1 s.x2 s.x3] w λe w'=>e=.returned (.func (.func 200) #[] #[.pointer (some ⟨w.heap.size,0,none⟩)])/\w'=w.alloc (.cells #[.int .u64 (s.x0:Int),.int .u64 (s.x1:Int),.int .u64 (s.x2:Int),.int .u64 (s.x3:Int)] 150):=by
 refine callsIn_of_wp func184 rfl trivial ?_ rfl;simp only[ntmps184,size_toArray,length_cons,length_nil,reduceAdd,reduceSub,Array.replicate_succ,Array.replicate_zero,push_toArray,append_toArray,nil_append,cons_append]
 gi_wp2
 go_ret
 exact⟨rfl,rfl⟩
def W4.wd (s:W4) (i:Nat):Nat:=if i=0 then s.x0 else if i=1 then s.x1 else if i=2 then s.x2 else s.x3
def W4.wd_lt (h:s.ok) (i:Nat):s.wd i<18446744073709551616:=by
 unfold W4.wd
 split
 .exact h.l0
 .split
  .exact h.l1
  .split
   .exact h.l2
   .exact h.l3
def FB (s:W4) (i:Nat) (hi:i<4) (w:World):(Instr.index 148 (.agg #[.int .u64 (s.x0:Int),.int .u64 (s.x1:Int),.int .u64 (s.x2:Int),.int .u64 (s.x3:Int)]) (.int .i64 (i:Int))).run prog w=.ok (.int .u64 (s.wd i:Int)) w:=by
 match i,hi with
 |0,_=>exact Sx.uF _ _ _ _ w
 |1,_=>exact Sx.uG _ _ _ _ w
 |2,_=>exact Sx.uH _ _ _ _ w
 |3,_=>exact Sx.uI _ _ _ _ w
def W4.rest (s:W4):Nat->List Nat
 |0=>s.all
 |1=>(sh s.x1).map (64+·)++((sh s.x2).map (128+·)++(sh s.x3).map (192+·))
 |2=>(sh s.x2).map (128+·)++(sh s.x3).map (192+·)
 |3=>(sh s.x3).map (192+·)
 |_=>[]
def W4.rest_step (s:W4) (i:Nat) (hi:i<4):s.rest i=(sh (s.wd i)).map (64*i+·)++s.rest (i+1):=by
 match i,hi with
 |0,_=>simp[W4.rest,W4.all,W4.wd]
 |1,_=>simp[W4.rest,W4.wd]
 |2,_=>simp[W4.rest,W4.wd]
 |3,_=>simp[W4.rest,W4.wd]
structure Kz (q:Nat) (W W':World):Prop where
 size:W.heap.size<=W'.heap.size
 k1:W'.heap[1]?=W.heap[1]?
 k2:W'.heap[q]?=W.heap[q]?
theorem Kz.refl (q:Nat) (W:World):Kz q W W:=⟨zq,rfl,rfl⟩
theorem Kz.trans {A B C:World} (h:Kz q A B) (k:Kz q B C):Kz q A C:=⟨Zc h.size k.size,k.k1.trans h.k1,k.k2.trans h.k2⟩
def FC (n:Nat) (hn:2<=n) (l q:Nat) (s:W4) (hs:s.ok) (J Jx:List {x:Nat // x∈s.all}->World->Prop) (W:World)
  (hJ:AbidesFrom W.heap.size J) (hJx:AbidesFrom W.heap.size Jx)
  (hY:∀ d x W1,J d W1->d.length<s.all.length->YieldAt Fence.wide (n-1) prog l #[.int .u8 (x.val:Nat)] W1 λe W'=>
   (e=.returned (.bool true)/\J (d++[x]) W'/\Kz q W1 W')\/(e=.returned (.bool false)/\Jx (d++[x]) W'))
  (hT:TabZ W) (hq:W.heap[q]?=some (.cells #[.int .u64 (s.x0:Int),.int .u64 (s.x1:Int),.int .u64 (s.x2:Int),.int .u64 (s.x3:Int)] 150)) (h0:J [] W) :
  CallsIn Fence.wide n prog 200 #[.func (.yield l) #[] #[],.pointer (some ⟨q,0,none⟩)] W λe W'=>(∃ v,e=.returned v)/\((∃ xs,xs.map Subtype.val=s.all/\J xs W')\/(∃ d,d.map Subtype.val <+: s.all/\Jx d W')):=by
 obtain⟨F,hF⟩:=zx Fence.wide;rw[<-hF] at hY ⊢;have a5:F.round=none:=by rw[hF];rfl
 have b8:F.fn 201:=by rw[hF];trivial
 have b0:F.fn 200:=by rw[hF];trivial
 have h1:1<=n:=ω;have HF:=zh hF;have a8:Hid (∀ {m f:Nat}{args:Array Value}{w:World}{R:Ending->World->Prop},Calls prog f args w R->CallsIn F m prog f args w R):=λh=>by rw[hF];exact callsIn_wide.2 h
 clear hF;obtain⟨y0,y1,y2,y3⟩:=oN hq;have G:=FB s;have HT:=zh hT;have HS:Hid s.ok:=hs;clear hq hT hs;refine callsIn_of_wp func200 rfl b0 ?_ a5;simp only[ntmps200,size_toArray,length_cons,length_nil,reduceAdd,reduceSub,Array.replicate_succ,Array.replicate_zero,push_toArray,append_toArray,nil_append,cons_append]
 gi_wp2
 gi_loopw [7] (λi wr=>∃(k:Nat) (d:List {x:Nat // x∈s.all}),i=.int .i64 k/\k<=4/\d.map Subtype.val++s.rest k=s.all/\J d wr/\Kz q W wr) (λi _=>4-(intOf i).toNat)
 case atStart=>exact⟨0,[],rfl,Zk _,rfl,h0,Kz.refl _ _⟩
 case round=>
  clear h0;obtain⟨k,d,rfl,hk,D,N,U⟩:=hrel;have HJ:=zh N;have HK:=zh U;have HP:=zh D;clear N U D y0 y1 y2 y3
  by_cases hlt:k<4
  .have b5:(k:Int)<4:=ω;have L:=G k hlt wr;have E:=W4.wd_lt HS.out k;clear G;have HR:=zh (s.rest_step k hlt);obtain⟨y,hy⟩:=zx (s.wd k);rw[<-hy] at L E HR;have o:Hid (d.map Subtype.val++((sh y).map (64*k+·)++s.rest (k+1))=s.all):=by
    show _=_;rw[<-HR.out];exact HP.out
   clear hy HR HP
   gi_wp2
   rename World=>wo
   gi_loopw [4] (λv wi=>∃(y:Nat) (d:List {x:Nat // x∈s.all}),v=.int .u64 y/\y<18446744073709551616/\d.map Subtype.val++((sh y).map (64*k+·)++s.rest (k+1))=s.all/\J d wi/\Kz q W wi) (λv _=>(intOf v).toNat)
   case atStart=>exact⟨y,d,rfl,E,o.out,HJ.out,HK.out⟩
   case round=>
    clear HJ HK o E L;obtain⟨y',u,rfl,C,Y,O,a1⟩:=hrel;have HJ:=zh O;have HK:=zh a1;have o:=zh Y;clear O a1 Y
    by_cases hy0:y'=0
    .subst hy0
     gi_wp2
     go_roundw
     case rel=>exact⟨k+1,u,π,ω,by have:=o.out;rw[kA] at this;simpa using this,HJ.out,HK.out⟩
     case measure=>simp[intOf]<;>omega
    .have b2:¬((y':Int)=0):=ω;have M:=a8.out (m:=n-1) (Kr y' C hy0 wr (HT.out.keep HK.out.k1));have a3:=Ko hy0 C;obtain⟨lw,I⟩:=zx (low y');have K:=zh I;rw[<-I] at M a3;clear I;have z:64*k+lw∈s.all:=by
      rw[<-o.out,lk hy0,K.out];simp
     have Q:u.length<s.all.length:=by
      have:=congrArg length o.out;rw[lk hy0] at this;simp at this;omega
     have P:=hY u ⟨64*k+lw,z⟩ wr HJ.out Q;have H:(((64*k+lw:Nat):Nat):Int)=64*(k:Int)+(lw:Int):=ω;simp only[H] at P;have b6:bits BinOp.and IntKind.u64 (y':Int) ((y':Int)-1)=((zH y':Nat):Int):=by
      have e1:(y':Int)-1=((y' - 1:Nat):Int):=ω;rw[e1];exact bits_and_u64_nat y' (y' - 1) C ω
     gi_wp2_with (gi_at_call 201;refine M.mono ?_;rintro e w2 ⟨rfl,a4⟩;obtain rfl:=a4.symm;obtain⟨fn,b4,a2,b3,a7,hR⟩:=P)
     refine hR.mono ?_;rintro e W3 (⟨rfl,V,Z⟩|⟨rfl,X⟩)
     .have a6:=zh V;have b1:=zh (HK.out.trans Z);clear V Z a7 hR
      gi_wp2
      go_roundw
      case rel=>
       refine⟨zH y',u++[⟨64*k+lw,z⟩],rfl,Nat.lt_trans (mM hy0) C,?_,a6.out,b1.out⟩;have:=o.out;rw[lk hy0,<-K.out] at this
       simpa using this
      case measure=>simp[intOf];exact mM hy0
     .gi_wp2
      refine Zb (results_none rfl _ _ _) rfl ?_;refine⟨⟨_,rfl⟩,.inr ⟨u++[⟨64*k+lw,z⟩],?_,X⟩⟩;refine⟨(sh (zH y')).map (64*k+·)++s.rest (k+1),?_⟩;have:=o.out;rw[lk hy0,<-K.out] at this
      simpa using this
  .have b7:¬(k:Int)<4:=ω;have a9:k=4:=ω;clear G
   gi_wp2
   go_end0
   refine⟨⟨_,rfl⟩,.inl ⟨d,?_,HJ.out⟩⟩;have:=HP.out;rw[a9] at this
   simpa [W4.rest] using this
open Sx (aO dw)
structure Pc where
 first:W4
 last:W4
 empty:Bool
structure Ex where
 bs:List (Nat->Bool)
 fs:List W4
abbrev Mk:=Ex->Pc×Ex
def eu (c:dw):Nat:=if c.sign≠123 then 1 else if c.most=-1 then c.least.toNat+1 else c.most.toNat
def jT (n:Nat):List dw->Nat
 |[]=>n
 |c::cs=>jT n cs*eu c
mutual
def bJ:aO->Nat
 |.mk g _ cs=>jT (match g with|[]=>1|c::gs=>eC c+aY gs) cs.reverse
def eC:List aO->Nat
 |[]=>0
 |p::ps=>bJ p+eC ps
def aY:List (List aO)->Nat
 |[]=>0
 |c::cs=>eC c+aY cs
end
def zI (g:List (List aO)):Nat:=match g with|[]=>1|c::gs=>eC c+aY gs
def eD:Pc:=⟨W4.none,W4.none,true⟩
def fF:Pc:=⟨W4.none,W4.none,false⟩
def Pc.alt (a b:Pc):Pc:=⟨a.first.or b.first,a.last.or b.last,a.empty||b.empty⟩
def Pc.join (a b:Pc):Pc:=⟨if a.empty then a.first.or b.first else a.first,if b.empty then b.last.or a.last else b.last,a.empty&&b.empty⟩
def Pc.may (a:Pc):Pc:={a with empty:=true}
def Ho (fs:List W4) (l f:W4):List W4:=l.all.foldl (λfs i=>fs.modify i (·.or f)) fs
def Ex.join (e:Ex) (a b:Pc):Ex:={e with fs:=Ho e.fs a.last b.first}
def fv (n:Nat):W4:=if n<64 then⟨2 ^ n,0,0,0⟩ else if n<128 then⟨0,2 ^ (n-64),0,0⟩ else if n<192 then⟨0,0,2 ^ (n-128),0⟩ else⟨0,0,0,2 ^ (n-192)⟩
def jZ (S:Nat->Bool):Mk:=λe=>(⟨fv e.bs.length,fv e.bs.length,false⟩,⟨e.bs++[S],e.fs++[W4.none]⟩)
def FD (f:Mk):Mk:=λe=>((f e).1,(f e).2.join (f e).1 (f e).1)
def cD (f:Mk):Mk:=λe=>((f e).1.may,(f e).2)
def aA (f:Mk) (r:Pc):Mk:=λe=>((f e).1.join r,(f e).2.join (f e).1 r)
def aC (g:Pc->Mk):Nat->Pc->Mk
 |0,r,e=>(r,e)
 |n+1,r,e=>aC g n (g r e).1 (g r e).2
def ei (f:Mk) (least most:Nat) (r:Pc):Mk:=λe=>
 let x:=aC (λr=>cD (aA f r)) (most-least) r e
 aC (aA f) least x.1 x.2
def dh (f:Mk) (c:dw):Mk:=
 if c.sign=42 then cD (FD f) else if c.sign=43 then FD f else if c.sign=63 then cD f else
 if c.most=-1 then λe=>ei f c.least.toNat c.least.toNat (cD (FD f) e).1 (cD (FD f) e).2
 else ei f c.least.toNat c.most.toNat eD
def gV (a:Mk) (n:Nat):List dw->Mk
 |[]=>if n=0 then λe=>(eD,e) else a
 |c::cs=>if jT n (c::cs)=0 then λe=>(eD,e) else dh (gV a n cs) c
mutual
def bp:aO->Mk
 |.mk g S cs=>gV (match g with|[]=>jZ S|c::gs=>λe=>bF gs (fF.alt (iw c eD e).1) (iw c eD e).2) (zI g) cs.reverse
def iw:List aO->Pc->Mk
 |[],a,e=>(a,e)
 |p::ps,a,e=>iw ps (a.join (bp p e).1) ((bp p e).2.join a (bp p e).1)
def bF:List (List aO)->Pc->Mk
 |[],a,e=>(a,e)
 |c::cs,a,e=>bF cs (a.alt (iw c eD e).1) (iw c eD e).2
end
def Ks {x n:Nat} (h0:x≠0) (h:x<18446744073709551616) (hx:x<2 ^ n):low x<n:=by
 obtain⟨m,h1,-⟩:=Lib.ctzFrom_spec 64 x ω (by simpa using h);have h2:low x=Lib.ctzFrom 64 x:=by simp[low,Lib.ctz,h0]
 rw[<-h2] at h1;have h3:2 ^ low x<=x:=by
  conv=>rhs;rw[h1]
  exact Nat.le_mul_of_pos_right _ ω
 exact(Nat.pow_lt_pow_iff_right (a:=2) ω).1 (Nat.lt_of_le_of_lt h3 hx)
def Kt {n:Nat}:∀(x:Nat),x<18446744073709551616->x<2 ^ n->∀ i∈sh x,i<n:=by
 intro x
 induction x using Nat.strongRecOn with
 |_ x ih=>
  intro h hx i hi
  by_cases h0:x=0
  .subst h0;rw[kA] at hi;simp at hi
  .rw[lk h0] at hi;have hl:=mM h0;rcases mem_cons.1 hi with rfl|hi
   .exact Ks h0 h hx
   .exact ih _ hl ω ω i hi
structure Sp (n:Nat) (s:W4):Prop where
 b:s.x0<2 ^ n
 z1:s.x1=0
 z2:s.x2=0
 z3:s.x3=0
theorem Sp.none (n:Nat):Sp n W4.none:=⟨Nat.pow_pos ω,rfl,rfl,rfl⟩
def Sp.mono {n m:Nat} (h:Sp n s) (hm:n<=m):Sp m s:=⟨Zd h.b (Nat.pow_le_pow_right ω hm),h.z1,h.z2,h.z3⟩
theorem Sp.or {n:Nat} (h:Sp n s) (g:Sp n t):Sp n (s.or t):=⟨or_lt_two_pow h.b g.b,by simp[W4.or,h.z1,g.z1],by simp[W4.or,h.z2,g.z2],by simp[W4.or,h.z3,g.z3]⟩
theorem Sp.and {n:Nat} (h:Sp n s) (t:W4):Sp n (s.and t):=⟨Nat.lt_of_le_of_lt and_le_left h.b,by simp[W4.and,h.z1],by simp[W4.and,h.z2],by simp[W4.and,h.z3]⟩
def Sp.bit {n:Nat} (hn:n<64):Sp (n+1) (fv n):=by
 unfold fv;rw[Zi hn];exact⟨Nat.pow_lt_pow_right ω ω,rfl,rfl,rfl⟩
theorem Sp.ok {n:Nat} (h:Sp n s) (hn:n<=64):s.ok:=
 ⟨Zd h.b (Zc (Nat.pow_le_pow_right ω hn) Zr),by rw[h.z1];omega,by rw[h.z2];omega,by rw[h.z3];omega⟩
def Sp.lt {n:Nat} (h:Sp n s) (hn:n<=64):∀ i∈s.all,i<n:=by
 intro i hi;have ho:=(h.ok hn).l0;simp only[W4.all,h.z1,h.z2,h.z3,kA,map_nil,append_nil] at hi;exact Kt _ ho h.b i hi
structure eE (n:Nat) (p:Pc):Prop where
 f:Sp n p.first
 l:Sp n p.last
structure dE (n:Nat) (e:Ex):Prop where
 b:e.bs.length=n
 f:e.fs.length=n
 s:∀ x∈e.fs,Sp n x
theorem eE.mono {n m:Nat}{p:Pc} (h:eE n p) (hm:n<=m):eE m p:=⟨h.f.mono hm,h.l.mono hm⟩
theorem eE.n (n:Nat):eE n eD:=⟨Sp.none n,Sp.none n⟩
def eE.zero (n:Nat):eE n fF:=⟨Sp.none n,Sp.none n⟩
theorem eE.alt {n:Nat}{a b:Pc} (h:eE n a) (g:eE n b):eE n (a.alt b):=⟨h.f.or g.f,h.l.or g.l⟩
theorem eE.join {n:Nat}{a b:Pc} (h:eE n a) (g:eE n b):eE n (a.join b):=by
 unfold Pc.join;refine⟨?_,?_⟩
 .show Sp n (if a.empty then a.first.or b.first else a.first)
  split
  .exact h.f.or g.f
  .exact h.f
 .show Sp n (if b.empty then b.last.or a.last else b.last)
  split
  .exact g.l.or h.l
  .exact g.l
theorem eE.may {n:Nat}{a:Pc} (h:eE n a):eE n a.may:=⟨h.f,h.l⟩
def Ip (fs:List W4) (l f:W4):(Ho fs l f).length=fs.length:=by
 unfold Ho
 induction l.all generalizing fs with
 |nil=>rfl
 |cons i is ih=>simp only[foldl_cons];rw[ih];simp
theorem mem_modify {α:Type}{g:α->α}:∀ {l:List α}{i:Nat}{x:α},x∈l.modify i g->x∈l\/∃ y∈l,x=g y
 |[],i,x,h=>by simp at h
 |a::l,0,x,h=>by
  simp[modify_cons] at h;rcases h with h|h
  .exact .inr ⟨a,χ,h⟩
  .exact .inl (by simp[h])
 |a::l,i+1,x,h=>by
  simp at h;rcases h with h|h
  .exact .inl (by simp[h])
  .rcases mem_modify h with h|⟨y,hy,h⟩
   .exact .inl (by simp[h])
   .exact .inr ⟨y,by simp[hy],h⟩
def Ku {n:Nat} (l:W4)  (h:∀ x∈fs,Sp n x) (hf:Sp n f):∀ x∈Ho fs l f,Sp n x:=by
 unfold Ho
 induction l.all generalizing fs with
 |nil=>exact h
 |cons i is ih=>
  simp only[foldl_cons];refine ih (λx hx=>?_);rcases mem_modify hx with hx|⟨y,hy,rfl⟩
  .exact h x hx
  .exact(h y hy).or hf
theorem dE.join {n:Nat}{e:Ex}{a b:Pc} (h:dE n e) (g:eE n b):dE n (e.join a b):=⟨h.b,(Ip _ _ _).trans h.f,Ku _ h.s g.f⟩
def mN (f:Mk) (k:Nat):Prop:=∀ n e,n+k<=64->dE n e->dE (n+k) (f e).2/\eE (n+k) (f e).1
def Bw (S:Nat->Bool):mN (jZ S) 1:=λn e hn h=>by
 unfold jZ;have hb:=h.b;refine⟨⟨by simp[hb],by simp[h.f],λx hx=>?_⟩,?_,?_⟩
 .simp at hx;rcases hx with hx|rfl
  .exact(h.s x hx).mono ω
  .exact Sp.none _
 .simp only[hb];exact Sp.bit ω
 .simp only[hb];exact Sp.bit ω
def uZ {f:Mk} (h:mN f k):mN (FD f) k:=λn e hn he=>by
 obtain⟨h1,h2⟩:=h n e hn he;exact⟨h1.join h2,h2⟩
def pA {f:Mk} (h:mN f k):mN (cD f) k:=λn e hn he=>by
 obtain⟨h1,h2⟩:=h n e hn he;exact⟨h1,h2.may⟩
def dV {f:Mk} (h:mN f k) {r:Pc}{n:Nat}{e:Ex} (hn:n+k<=64) (he:dE n e) (hr:eE n r):dE (n+k) (aA f r e).2/\eE (n+k) (aA f r e).1:=by
 obtain⟨h1,h2⟩:=h n e hn he;exact⟨h1.join (hr.mono ω),h2.join (hr.mono ω)⟩
theorem gH {g:Pc->Mk}{k:Nat} (h:∀ n e r,n+k<=64->dE n e->eE n r->dE (n+k) (g r e).2/\eE (n+k) (g r e).1):∀(m n:Nat) (e:Ex) (r:Pc),n+k*m<=64->dE n e->eE n r->dE (n+k*m) (aC g m r e).2/\eE (n+k*m) (aC g m r e).1
 |0,n,e,r,_,he,hr=>⟨he,hr⟩
 |m+1,n,e,r,hn,he,hr=>by
  rw[mul_succ] at hn ⊢;obtain⟨h1,h2⟩:=h n e r ω he hr;have:=gH h m (n+k) (g r e).2 (g r e).1 ω h1 h2;simp only[aC];rw[show n+(k*m+k)=n+k+k*m by omega];exact this
def tE {f:Mk} (h:mN f k) {a b n:Nat}{e:Ex}{r:Pc} (hab:a<=b) (hn:n+k*b<=64) (he:dE n e) (hr:eE n r):dE (n+k*b) (ei f a b r e).2/\eE (n+k*b) (ei f a b r e).1:=by
 have d:k*b=k*(b-a)+k*a:=by rw[<-Nat.mul_add];congr 1;omega
 rw[d] at hn ⊢;obtain⟨h1,h2⟩:=gH (g:=λr=>cD (aA f r)) (k:=k) (λn e r hn he hr=>⟨(dV h hn he hr).1,(dV h hn he hr).2.may⟩) (b-a) n e r ω he hr;have:=gH (g:=aA f) (k:=k) (λn e r hn he hr=>dV h hn he hr) a (n+k*(b-a)) _ _ ω h1 h2;unfold ei;rw[<-Nat.add_assoc];exact this
def gI (c:dw):Prop:=c.sign=42\/c.sign=43\/c.sign=63\/(c.sign=123/\0<=c.least/\c.least<=30/\(c.most=-1\/(c.least<=c.most/\c.most<=30)))
def Dl {f:Mk}{c:dw} (h:mN f k) (hc:gI c):mN (dh f c) (k*eu c):=λn e hn he=>by
 unfold dh;rcases hc with hs|hs|hs|⟨hs,h0,h3,h1⟩
 .have:eu c=1:=by simp[eu,hs]
  rw[this,Nat.mul_one] at hn ⊢;rw[Zi hs];exact pA (uZ h) n e hn he
 .have:eu c=1:=by simp[eu,hs]
  rw[this,Nat.mul_one] at hn ⊢;rw[Zh (by rw[hs];decide),Zi hs];exact uZ h n e hn he
 .have:eu c=1:=by simp[eu,hs]
  rw[this,Nat.mul_one] at hn ⊢;rw[Zh (by rw[hs];decide),Zh (by rw[hs];decide),Zi hs];exact pA h n e hn he
 .rw[Zh (by rw[hs];decide),Zh (by rw[hs];decide),Zh (by rw[hs];decide)];rcases h1 with h1|h1
  .have:eu c=c.least.toNat+1:=by simp[eu,hs,h1]
   rw[this,mul_succ] at hn ⊢;rw[Zi h1];obtain⟨g1,g2⟩:=pA (uZ h) n e ω he;have:=tE h (Nat.le_refl c.least.toNat) (n:=n+k) ω g1 g2;rw[show n+(k*c.least.toNat+k)=n+k+k*c.least.toNat by omega];exact this
  .have hm:¬ c.most=-1:=ω;have:eu c=c.most.toNat:=by simp[eu,hs,hm]
   rw[this] at hn ⊢;rw[Zh hm];exact tE h ω hn he (eE.n _)
theorem qs {a:Mk}{k:Nat} (h:mN a k):∀ {cs:List dw},(∀ c∈cs,gI c)->mN (gV a k cs) (jT k cs)
 |[],_=>λn e hn he=>by
  simp only[gV,jT] at hn ⊢
  split
  .rename_i h0;subst h0;exact⟨he,eE.n _⟩
  .exact h n e hn he
 |c::cs,hc=>λn e hn he=>by
  simp only[gV]
  split
  .rename_i h0;rw[h0];exact⟨he,eE.n _⟩
  .exact Dl (qs h (λc hc'=>hc c (by simp[hc']))) (hc c χ) n e hn he
mutual
def iX:aO->Prop
 |.mk g _ cs=>(∀ c∈cs,gI c)/\aX g
def dW:List aO->Prop
 |[]=>True
 |p::ps=>iX p/\dW ps
def aX:List (List aO)->Prop
 |[]=>True
 |c::cs=>dW c/\aX cs
end
theorem zJ (g:List (List aO)) (S:Nat->Bool) (cs:List dw):bp (.mk g S cs)=gV (match g with|[]=>jZ S|_::_=>bF g fF) (zI g) cs.reverse:=by
 cases g with
 |nil=>simp[bp]
 |cons c gs=>simp only[bp];congr 1
theorem kC (c:List aO) (gs:List (List aO)):zI (c::gs)=aY (c::gs):=by simp[zI,aY]
theorem ix (g:List (List aO)) (S:Nat->Bool) (cs:List dw):bJ (.mk g S cs)=jT (zI g) cs.reverse:=by
 cases g<;>simp[bJ,zI]
mutual
theorem fK:∀(p:aO),iX p->mN (bp p) (bJ p)
 |.mk g S cs,h=>by
  simp only[iX] at h;rw[ix,zJ];refine qs ?_ (λc hc=>h.1 c (by simpa using hc))
  match g,h with
  |[],h=>exact Bw S
  |c::gs,h=>
   rw[kC];exact λn e hn he=>lp (c::gs) h.2 n e fF hn he (eE.zero n)
theorem qt:∀(ps:List aO),dW ps->∀ n e a,n+eC ps<=64->dE n e->eE n a->dE (n+eC ps) (iw ps a e).2/\eE (n+eC ps) (iw ps a e).1
 |[],_,n,e,a,_,he,ha=>by simpa [iw,eC] using⟨he,ha⟩
 |p::ps,h,n,e,a,hn,he,ha=>by
  simp only[dW] at h;simp only[eC] at hn ⊢;obtain⟨h1,h2⟩:=fK p h.1 n e ω he;have d:=ha.mono (show n<=n+bJ p by omega);have:=qt ps h.2 (n+bJ p) ((bp p e).2.join a (bp p e).1) (a.join (bp p e).1) ω (h1.join h2) (d.join h2);simp only[iw];rw[<-Nat.add_assoc];exact this
theorem lp:∀(cs:List (List aO)),aX cs->∀ n e a,n+aY cs<=64->dE n e->eE n a->dE (n+aY cs) (bF cs a e).2/\eE (n+aY cs) (bF cs a e).1
 |[],_,n,e,a,_,he,ha=>by simpa [bF,aY] using⟨he,ha⟩
 |c::cs,h,n,e,a,hn,he,ha=>by
  simp only[aX] at h;simp only[aY] at hn ⊢;obtain⟨h1,h2⟩:=qt c h.1 n e eD ω he (eE.n n);have:=lp cs h.2 (n+eC c) (iw c eD e).2 (a.alt (iw c eD e).1) ω h1 ((ha.mono ω).alt h2);simp only[bF];rw[<-Nat.add_assoc];exact this
end
def Iq:∀(x:Nat),x<18446744073709551616->∀ i,i∈sh x↔x.testBit i=true:=by
 intro x
 induction x using Nat.strongRecOn with
 |_ x ih=>
  intro h i
  by_cases h0:x=0
  .subst h0;rw[kA];simp
  .rw[lk h0];obtain⟨m,h1,-⟩:=Lib.ctzFrom_spec 64 x ω (by simpa using h);have h2:low x=Lib.ctzFrom 64 x:=by simp[low,Lib.ctz,h0]
   rw[<-h2] at h1;have hl:=mM h0;rw[mem_cons,ih _ hl ω];obtain⟨k,hk⟩:=zx (low x);rw[<-hk] at h1 ⊢;have hp:0<2 ^ k:=Nat.pow_pos ω;have hx:x=2 ^ k*(2*m+1):=by rw[h1]
   have e1:x / 2 ^ k=2*m+1:=by rw[hx,Nat.mul_div_cancel_left _ hp]
   have hm:2 ^ k*(2*m+1)=2 ^ k*(2*m)+2 ^ k:=by rw[Nat.mul_add,Nat.mul_one]
   have e2:(x-1) / 2 ^ k=2*m:=by
    rw[hx,hm,show 2 ^ k*(2*m)+2 ^ k-1=(2 ^ k-1)+2 ^ k*(2*m) by omega,add_mul_div_left _ _ hp,div_eq_of_lt ω];omega
   have tb:∀(y:Nat) j,y.testBit (k+j)=(y / 2 ^ k).testBit j:=λy j=>by rw[testBit_div_two_pow,Nat.add_comm]
   unfold zH;rw[testBit_and];rcases Nat.lt_trichotomy i k with d|d|d
   .have hb:x.testBit i=false:=by
     rw[hx,testBit_two_pow_mul,decide_eq_false ω,Bool.false_and]
    rw[hb]
    simp;omega
   .subst d;have hb:x.testBit i=true:=by
     have:=tb x 0;rw[Nat.add_zero,e1] at this;rw[this,testBit_zero]
     simp
    simp[hb]
   .obtain⟨j,rfl⟩:∃ j,i=k+(j+1):=⟨i-k-1,ω⟩
    rw[tb,tb,e1,e2,testBit_succ,testBit_succ];have q1:(2*m+1) / 2=m:=ω;have q2:2*m / 2=m:=ω;rw[q1,q2,Bool.and_self]
    constructor
    .rintro(e|e)
     .omega
     .exact e
    .exact .inr
def eQ (s:W4) (i:Nat):Prop:=s.x0.testBit i=true
theorem gJ (i:Nat):¬ eQ W4.none i:=by simp[eQ,W4.none]
theorem iY:eQ (s.or t) i↔eQ s i\/eQ t i:=by simp[eQ,W4.or,testBit_or]
theorem u_:eQ (s.and t) i↔eQ s i/\eQ t i:=by simp[eQ,W4.and,testBit_and]
def By {n i:Nat} (hn:n<64):eQ (fv n) i↔i=n:=by
 unfold eQ fv;rw[Zi hn];simp only[testBit_two_pow,decide_eq_true_eq];exact⟨λh=>h.symm,λh=>h.symm⟩
def Sp.mem_lt {n:Nat} (h:Sp n s)  (hi:eQ s i):i<n:=by
 rcases Nat.lt_or_ge i n with q|q
 .exact q
 .have:=testBit_lt_two_pow (Zd h.b (Nat.pow_le_pow_right ω q));unfold eQ at hi;rw[this] at hi
  cases hi
def Sp.all_mem {n:Nat} (h:Sp n s) (hn:n<=64) :i∈s.all↔eQ s i:=by
 have ho:=(h.ok hn).l0;simp only[W4.all,h.z1,h.z2,h.z3,kA,map_nil,append_nil];exact Iq _ ho i
theorem Sp.isE {n:Nat} (h:Sp n s):s.isE=true↔∀ i,¬ eQ s i:=by
 unfold W4.isE;simp only[decide_eq_true_eq]
 constructor
 .rintro rfl i;simp[eQ]
 .intro q
  have h0:s.x0=0:=eq_of_testBit_eq (λi=>by
   have:=q i;unfold eQ at this
   simpa using this)
  obtain⟨x0,x1,x2,x3⟩:=s;have:=h.z1;have:=h.z2;have:=h.z3
  simp only at *
  subst_vars;rfl
def Sp.ext {n:Nat} (h:Sp n s) (g:Sp n t) (e:∀ i,eQ s i↔eQ t i):s=t:=by
 have h0:s.x0=t.x0:=eq_of_testBit_eq (λi=>by
  have:=e i;unfold eQ at this
  cases a:s.x0.testBit i<;>cases b:t.x0.testBit i<;>simp[a,b] at this ⊢)
 obtain⟨x0,x1,x2,x3⟩:=s;obtain⟨y0,y1,y2,y3⟩:=t;obtain⟨-,a1,a2,a3⟩:=h;obtain⟨-,b1,b2,b3⟩:=g
 simp only at *
 subst_vars;rfl
def fol (e:Ex) (i j:Nat):Prop:=eQ (e.fs.getD i W4.none) j
def byt (e:Ex) (i b:Nat):Bool:=e.bs.getD i (λ_=>false) b
theorem xb {l:List W4}:eQ ((l.modify k (·.or f)).getD i W4.none) j↔eQ (l.getD i W4.none) j\/(i=k/\i<l.length/\eQ f j):=by
 simp only[getD_eq_getElem?_getD,getElem?_modify]
 by_cases h:k=i
 .subst h;rcases Nat.lt_or_ge k l.length with hk|hk
  .simp[iY,hk]
  .simp[gJ,Nat.not_lt.2 hk]
 .have:¬ i=k:=λe=>h e.symm
  simp[h,this]
theorem Bz {f:W4}:∀(l:List Nat) (fs:List W4) {i j:Nat},eQ ((l.foldl (λfs i=>fs.modify i (·.or f)) fs).getD i W4.none) j↔eQ (fs.getD i W4.none) j\/(i∈l/\i<fs.length/\eQ f j)
 |[],fs,i,j=>by simp
 |k::l,fs,i,j=>by
  rw[foldl_cons,Bz l,xb,length_modify]
  constructor
  .rintro((h|⟨rfl,h⟩)|⟨h1,h⟩)
   .exact .inl h
   .exact .inr ⟨χ,h⟩
   .exact .inr ⟨by simp[h1],h⟩
  .rintro(h|⟨h1,h⟩)
   .exact .inl (.inl h)
   .rcases mem_cons.1 h1 with rfl|h1
    .exact .inl (.inr ⟨rfl,h⟩)
    .exact .inr ⟨h1,h⟩
def mO {n:Nat}{e:Ex}{a b:Pc} (he:dE n e) (ha:eE n a) (hn:n<=64) :fol (e.join a b) i j↔fol e i j\/(eQ a.last i/\eQ b.first j):=by
 unfold fol Ex.join Ho;rw[Bz,he.f,ha.l.all_mem hn]
 constructor
 .rintro(h|⟨h1,_,h2⟩)
  .exact .inl h
  .exact .inr ⟨h1,h2⟩
 .rintro(h|⟨h1,h2⟩)
  .exact .inl h
  .exact .inr ⟨h1,ha.l.mem_lt h1,h2⟩
def Rg (a b i:Nat):Prop:=a<=i/\i<b
structure Fr (n:Nat) (e e':Ex):Prop where
 b:∀ i c,i<n->byt e' i c=byt e i c
 f:∀ i j,i<n->(fol e' i j↔fol e i j)
theorem Fr.refl (n:Nat) (e:Ex):Fr n e e:=⟨λ_ _ _=>rfl,λ_ _ _=>Iff.rfl⟩
theorem Fr.trans {n:Nat}{a b c:Ex} (h:Fr n a b) (g:Fr n b c):Fr n a c:=⟨λi x q=>(g.b i x q).trans (h.b i x q),λi j q=>(g.f i j q).trans (h.f i j q)⟩
def Fr.mono {m n:Nat}{a b:Ex} (h:Fr n a b) (q:m<=n):Fr m a b:=⟨λi x k=>h.b i x ω,λi j k=>h.f i j ω⟩
theorem Fr.join {m n:Nat}{e:Ex}{a b:Pc} (he:dE n e) (ha:eE n a) (hn:n<=64) (hm:∀ i,eQ a.last i->m<=i):Fr m e (e.join a b):=by
 refine⟨λi c _=>rfl,λi j hi=>?_⟩;rw[mO he ha hn]
 constructor
 .rintro(h|⟨h,_⟩)
  .exact h
  .have:=hm i h;omega
 .exact .inl
structure Pz where
 S:Nat->Prop
 first:Nat->Prop
 last:Nat->Prop
 fol:Nat->Nat->Prop
 byt:Nat->Nat->Prop
 em:Prop
def Pz.same {A B:Pz} (h1:∀ i,A.S i↔B.S i) (h2:∀ i,A.first i↔B.first i) (h3:∀ i,A.last i↔B.last i) (h4:∀ i j,A.fol i j↔B.fol i j) (h5:∀ i c,A.byt i c↔B.byt i c) (h6:A.em↔B.em):A=B:=by
 obtain⟨a1,a2,a3,a4,a5,a6⟩:=A;obtain⟨b1,b2,b3,b4,b5,b6⟩:=B
 simp only at h1 h2 h3 h4 h5 h6
 obtain rfl:a1=b1:=funext λi=>propext (h1 i)
 obtain rfl:a2=b2:=funext λi=>propext (h2 i)
 obtain rfl:a3=b3:=funext λi=>propext (h3 i)
 obtain rfl:a4=b4:=funext λi=>funext λj=>propext (h4 i j)
 obtain rfl:a5=b5:=funext λi=>funext λj=>propext (h5 i j)
 obtain rfl:a6=b6:=propext h6;rfl
structure fS (A:Pz):Prop where
 f:∀ i,A.first i->A.S i
 l:∀ i,A.last i->A.S i
 o:∀ i j,A.fol i j->A.S i/\A.S j
 b:∀ i c,A.byt i c->A.S i
def aN:Pz:=⟨λ_=>False,λ_=>False,λ_=>False,λ_ _=>False,λ_ _=>False,True⟩
def a0:Pz:=⟨λ_=>False,λ_=>False,λ_=>False,λ_ _=>False,λ_ _=>False,False⟩
def xc (S:Nat->Bool) (n:Nat):Pz:=⟨λi=>i=n,λi=>i=n,λi=>i=n,λ_ _=>False,λi c=>i=n/\S c=true,False⟩
def co (A B:Pz):Pz:=⟨λi=>A.S i\/B.S i,λi=>A.first i\/(A.em/\B.first i),λi=>B.last i\/(B.em/\A.last i),λi j=>(A.fol i j\/B.fol i j)\/(A.last i/\B.first j),λi c=>A.byt i c\/B.byt i c,A.em/\B.em⟩
def fL (A B:Pz):Pz:=⟨λi=>A.S i\/B.S i,λi=>A.first i\/B.first i,λi=>A.last i\/B.last i,λi j=>A.fol i j\/B.fol i j,λi c=>A.byt i c\/B.byt i c,A.em\/B.em⟩
def yH (A:Pz):Pz:={A with fol:=λi j=>A.fol i j\/(A.last i/\A.first j)}
def jg (A:Pz):Pz:={A with em:=True}
theorem iy (A B C:Pz):co (co A B) C=co A (co B C):=
 Pz.same (λi=>or_assoc)
  (λi=>by simp only[co];constructor<;>(rintro h;rcases h with h|h<;>grind))
  (λi=>by simp only[co];constructor<;>(rintro h;rcases h with h|h<;>grind))
  (λi j=>by simp only[co];constructor<;>(rintro h;grind))
  (λi c=>or_assoc) and_assoc
theorem jh (A:Pz):co A aN=A:=Pz.same (λi=>by simp[co,aN]) (λi=>by simp[co,aN]) (λi=>by simp[co,aN]) (λi j=>by simp[co,aN]) (λi c=>by simp[co,aN]) (by simp[co,aN])
theorem kD (A:Pz):co aN A=A:=Pz.same (λi=>by simp[co,aN]) (λi=>by simp[co,aN]) (λi=>by simp[co,aN]) (λi j=>by simp[co,aN]) (λi c=>by simp[co,aN]) (by simp[co,aN])
theorem nP (A:Pz):fL a0 A=A:=Pz.same (λi=>by simp[fL,a0]) (λi=>by simp[fL,a0]) (λi=>by simp[fL,a0]) (λi j=>by simp[fL,a0]) (λi c=>by simp[fL,a0]) (by simp[fL,a0])
theorem lq (A:Pz):fL A a0=A:=Pz.same (λi=>by simp[fL,a0]) (λi=>by simp[fL,a0]) (λi=>by simp[fL,a0]) (λi j=>by simp[fL,a0]) (λi c=>by simp[fL,a0]) (by simp[fL,a0])
theorem qu (A B C:Pz):fL (fL A B) C=fL A (fL B C):=Pz.same (λi=>or_assoc) (λi=>or_assoc) (λi=>or_assoc) (λi j=>or_assoc) (λi c=>or_assoc) or_assoc
theorem fS.n:fS aN:=⟨λ_ h=>h,λ_ h=>h,λ_ _ h=>h.elim,λ_ _ h=>h⟩
def fS.zero:fS a0:=⟨λ_ h=>h,λ_ h=>h,λ_ _ h=>h.elim,λ_ _ h=>h⟩
def fS.on (S:Nat->Bool) (n:Nat):fS (xc S n):=⟨λ_ h=>h,λ_ h=>h,λ_ _ h=>h.elim,λ_ _ h=>h.1⟩
def fS.cat {A B:Pz} (h:fS A) (g:fS B):fS (co A B):=by
 refine⟨λi q=>?_,λi q=>?_,λi j q=>?_,λi c q=>?_⟩
 .rcases q with q|⟨-,q⟩
  .exact .inl (h.f i q)
  .exact .inr (g.f i q)
 .rcases q with q|⟨-,q⟩
  .exact .inr (g.l i q)
  .exact .inl (h.l i q)
 .rcases q with(q|q)|⟨q1,q2⟩
  .exact⟨.inl (h.o i j q).1,.inl (h.o i j q).2⟩
  .exact⟨.inr (g.o i j q).1,.inr (g.o i j q).2⟩
  .exact⟨.inl (h.l i q1),.inr (g.f j q2)⟩
 .exact q.imp (h.b i c) (g.b i c)
def fS.alt {A B:Pz} (h:fS A) (g:fS B):fS (fL A B):=
 ⟨λi q=>q.imp (h.f i) (g.f i),λi q=>q.imp (h.l i) (g.l i),λi j q=>⟨q.imp (λq=>(h.o i j q).1) (λq=>(g.o i j q).1),q.imp (λq=>(h.o i j q).2) (λq=>(g.o i j q).2)⟩,λi c q=>q.imp (h.b i c) (g.b i c)⟩
def fS.ag {A:Pz} (h:fS A):fS (yH A):=⟨h.f,h.l,λi j q=>by
 rcases q with q|⟨q1,q2⟩
 .exact h.o i j q
 .exact⟨h.l i q1,h.f j q2⟩,h.b⟩
def fS.may {A:Pz} (h:fS A):fS (jg A):=⟨h.f,h.l,h.o,h.b⟩
structure Bj (T U:Nat->Prop) (R:Nat->Nat->Prop):Prop where
 d:∀ {i j},R i j->T i/\U j
 t:∀ {i},T i->∃ j,R i j
 o:∀ {j},U j->∃ i,R i j
 fn:∀ {i j j'},R i j->R i j'->j=j'
 inj:∀ {i i' j},R i j->R i' j->i=i'
def Bj.union {T U T' U':Nat->Prop}{R R':Nat->Nat->Prop} (h:Bj T U R) (g:Bj T' U' R') (dj:∀ i,T i->¬ T' i) (dk:∀ i,U i->¬ U' i):Bj (λi=>T i\/T' i) (λi=>U i\/U' i) (λi j=>R i j\/R' i j):=by
 refine⟨λq=>?_,λq=>?_,λq=>?_,λq r=>?_,λq r=>?_⟩
 .rcases q with q|q
  .exact⟨.inl (h.d q).1,.inl (h.d q).2⟩
  .exact⟨.inr (g.d q).1,.inr (g.d q).2⟩
 .rcases q with q|q
  .obtain⟨j,r⟩:=h.t q;exact⟨j,.inl r⟩
  .obtain⟨j,r⟩:=g.t q;exact⟨j,.inr r⟩
 .rcases q with q|q
  .obtain⟨j,r⟩:=h.o q;exact⟨j,.inl r⟩
  .obtain⟨j,r⟩:=g.o q;exact⟨j,.inr r⟩
 .rcases q with q|q<;>rcases r with r|r
  .exact h.fn q r
  .exact(dj _ (h.d q).1 (g.d r).1).elim
  .exact(dj _ (h.d r).1 (g.d q).1).elim
  .exact g.fn q r
 .rcases q with q|q<;>rcases r with r|r
  .exact h.inj q r
  .exact(dk _ (h.d q).2 (g.d r).2).elim
  .exact(dk _ (h.d r).2 (g.d q).2).elim
  .exact g.inj q r
structure PR (e:Ex) (T:Nat->Prop) (p:Pc) (A:Pz) (R:Nat->Nat->Prop):Prop where
 bj:Bj T A.S R
 f:∀ {i j},R i j->(eQ p.first i↔A.first j)
 l:∀ {i j},R i j->(eQ p.last i↔A.last j)
 b:∀ {i j} c,R i j->(byt e i c=true↔A.byt j c)
 fo:∀ {i j i2 j2},R i j->R i2 j2->(fol e i i2↔A.fol j j2)
 em:p.empty=true↔A.em
 cf:∀ i,eQ p.first i->T i
 cl:∀ i,eQ p.last i->T i
 cc:∀ i j,T i->fol e i j->T j
 ia:fS A
def PR.ext {e e':Ex}{p:Pc}{A:Pz} (h:PR e T p A R) (hb:∀ i b,T i->byt e' i b=byt e i b) (hf:∀ i j,T i->(fol e' i j↔fol e i j)):PR e' T p A R:=
 ⟨h.bj,h.f,h.l,λc r=>by rw[hb _ _ (h.bj.d r).1];exact h.b c r,λr r2=>(hf _ _ (h.bj.d r).1).trans (h.fo r r2),h.em,h.cf,h.cl,λi j hi q=>h.cc i j hi ((hf i j hi).1 q),h.ia⟩
def PR.frame {m n:Nat}{e e':Ex}{p:Pc}{A:Pz} (h:PR e (Rg m n) p A R) (f:Fr n e e'):PR e' (Rg m n) p A R:=h.ext (λi b q=>f.b i b q.2) (λi j q=>f.f i j q.2)
def PR.sup {e:Ex}{p:Pc}{A:Pz} (h:PR e T p A R) (q:∀ i,T i↔T' i):PR e T' p A R:=by
 obtain rfl:T=T':=funext λi=>propext (q i)
 exact h
def Ir (e:Ex):PR e (λ_=>False) eD aN (λ_ _=>False):=
 ⟨⟨λh=>h.elim,λh=>h.elim,λh=>h.elim,λh=>h.elim,λh=>h.elim⟩,λh=>h.elim,λh=>h.elim,λ_ h=>h.elim,λh=>h.elim,by simp[eD,aN],λi h=>(gJ i h).elim,λi h=>(gJ i h).elim,λ_ _ h=>h.elim,fS.n⟩
def Li (e:Ex):PR e (λ_=>False) fF a0 (λ_ _=>False):=
 ⟨⟨λh=>h.elim,λh=>h.elim,λh=>h.elim,λh=>h.elim,λh=>h.elim⟩,λh=>h.elim,λh=>h.elim,λ_ h=>h.elim,λh=>h.elim,by simp[fF,a0],λi h=>(gJ i h).elim,λi h=>(gJ i h).elim,λ_ _ h=>h.elim,fS.zero⟩
def PR.rg0 {e:Ex}{p:Pc}{A:Pz} (h:PR e (λ_=>False) p A R) (n:Nat):PR e (Rg n n) p A R:=h.sup (λi=>⟨λq=>q.elim,λq=>by unfold Rg at q;omega⟩)
theorem PR.may {e:Ex}{p:Pc}{A:Pz} (h:PR e T p A R):PR e T p.may (jg A) R:=
 ⟨h.bj,h.f,h.l,h.b,h.fo,by simp[Pc.may,jg],h.cf,h.cl,h.cc,h.ia.may⟩
def PR.again {e e':Ex}{p:Pc}{A:Pz} (h:PR e T p A R) (hb:∀ i c,byt e' i c=byt e i c) (hf:∀ i j,fol e' i j↔fol e i j\/(eQ p.last i/\eQ p.first j)):PR e' T p (yH A) R:=by
 refine⟨h.bj,h.f,h.l,λc r=>by rw[hb];exact h.b c r,λr r2=>?_,h.em,h.cf,h.cl,λi j hi q=>?_,h.ia.ag⟩
 .rw[hf,h.fo r r2,h.l r,h.f r2];rfl
 .rcases(hf i j).1 q with q|⟨-,q⟩
  .exact h.cc i j hi q
  .exact h.cf j q
section
variable {e:Ex}{T T':Nat->Prop}{a b:Pc}{A B:Pz}{R R':Nat->Nat->Prop} (h:PR e T a A R) (g:PR e T' b B R') (dj:∀ i,T i->¬ T' i) (dk:∀ i,A.S i->¬ B.S i)
include h g dj dk
def Dm (u:R i j\/R' i j):(eQ a.first i↔A.first j)/\(eQ b.first i↔B.first j)/\(eQ a.last i↔A.last j)/\(eQ b.last i↔B.last j):=by
 rcases u with u|u
 .obtain⟨h1,h2⟩:=h.bj.d u;exact⟨h.f u,⟨λq=>(dj i h1 (g.cf i q)).elim,λq=>(dk j h2 (g.ia.f j q)).elim⟩,h.l u,⟨λq=>(dj i h1 (g.cl i q)).elim,λq=>(dk j h2 (g.ia.l j q)).elim⟩⟩
 .obtain⟨h1,h2⟩:=g.bj.d u;exact⟨⟨λq=>(dj i (h.cf i q) h1).elim,λq=>(dk j (h.ia.f j q) h2).elim⟩,g.f u,⟨λq=>(dj i (h.cl i q) h1).elim,λq=>(dk j (h.ia.l j q) h2).elim⟩,g.l u⟩
def Lj (c:Nat) (u:R i j\/R' i j):byt e i c=true↔A.byt j c\/B.byt j c:=by
 have _:=dj;rcases u with u|u
 .obtain⟨-,h2⟩:=h.bj.d u;rw[h.b c u];exact⟨.inl,λq=>q.elim id (λq=>(dk j h2 (g.ia.b j c q)).elim)⟩
 .obtain⟨-,h2⟩:=g.bj.d u;rw[g.b c u];exact⟨.inr,λq=>q.elim (λq=>(dk j (h.ia.b j c q) h2).elim) id⟩
def JE {i j i2 j2:Nat} (u:R i j\/R' i j) (u2:R i2 j2\/R' i2 j2):fol e i i2↔A.fol j j2\/B.fol j j2:=by
 rcases u with u|u<;>rcases u2 with u2|u2
 .rw[h.fo u u2];exact⟨.inl,λq=>q.elim id (λq=>(dk j (h.bj.d u).2 (g.ia.o j j2 q).1).elim)⟩
 .constructor
  .exact λq=>(dj i2 (h.cc i i2 (h.bj.d u).1 q) (g.bj.d u2).1).elim
  .rintro(q|q)
   .exact(dk j2 (h.ia.o j j2 q).2 (g.bj.d u2).2).elim
   .exact(dk j (h.bj.d u).2 (g.ia.o j j2 q).1).elim
 .constructor
  .exact λq=>(dj i2 (h.bj.d u2).1 (g.cc i i2 (g.bj.d u).1 q)).elim
  .rintro(q|q)
   .exact(dk j (h.ia.o j j2 q).1 (g.bj.d u).2).elim
   .exact(dk j2 (h.bj.d u2).2 (g.ia.o j j2 q).2).elim
 .rw[g.fo u u2];exact⟨.inr,λq=>q.elim (λq=>(dk j (h.ia.o j j2 q).1 (g.bj.d u).2).elim) id⟩
theorem PR.alt:PR e (λi=>T i\/T' i) (a.alt b) (fL A B) (λi j=>R i j\/R' i j):=by
 refine⟨h.bj.union g.bj dj dk,λu=>?_,λu=>?_,λc u=>Lj h g dj dk c u,λu u2=>JE h g dj dk u u2,?_,λi q=>?_,λi q=>?_,λi j q r=>?_,h.ia.alt g.ia⟩
 .obtain⟨h1,h2,-,-⟩:=Dm h g dj dk u;exact iY.trans (or_congr h1 h2)
 .obtain⟨-,-,h1,h2⟩:=Dm h g dj dk u;exact iY.trans (or_congr h1 h2)
 .simp only[Pc.alt,Bool.or_eq_true];exact or_congr h.em g.em
 .exact(iY.1 q).imp (h.cf i) (g.cf i)
 .exact(iY.1 q).imp (h.cl i) (g.cl i)
 .exact q.imp (λq=>h.cc i j q r) (λq=>g.cc i j q r)
theorem PR.join {e':Ex} (hb:∀ i c,byt e' i c=byt e i c) (hf:∀ i j,fol e' i j↔fol e i j\/(eQ a.last i/\eQ b.first j)):PR e' (λi=>T i\/T' i) (a.join b) (co A B) (λi j=>R i j\/R' i j):=by
 have mf:∀ i,eQ (a.join b).first i↔eQ a.first i\/(a.empty=true/\eQ b.first i):=λi=>by grind [Pc.join,eQ,iY]
 have ml:∀ i,eQ (a.join b).last i↔eQ b.last i\/(b.empty=true/\eQ a.last i):=λi=>by grind [Pc.join,eQ,iY]
 refine⟨h.bj.union g.bj dj dk,λu=>?_,λu=>?_,λc u=>by rw[hb];exact Lj h g dj dk c u,λ{i j i2 j2} u u2=>?_,?_,λi q=>?_,λi q=>?_,λi j q r=>?_,h.ia.cat g.ia⟩
 .obtain⟨h1,h2,-,-⟩:=Dm h g dj dk u;rw[mf];exact or_congr h1 (and_congr h.em h2)
 .obtain⟨-,-,h1,h2⟩:=Dm h g dj dk u;rw[ml];exact or_congr h2 (and_congr g.em h1)
 .obtain⟨-,-,h1,-⟩:=Dm h g dj dk u;obtain⟨-,h2,-,-⟩:=Dm h g dj dk u2;rw[hf];exact or_congr (JE h g dj dk u u2) (and_congr h1 h2)
 .simp only[Pc.join,Bool.and_eq_true];exact and_congr h.em g.em
 .rcases(mf i).1 q with q|⟨-,q⟩
  .exact .inl (h.cf i q)
  .exact .inr (g.cf i q)
 .rcases(ml i).1 q with q|⟨-,q⟩
  .exact .inr (g.cl i q)
  .exact .inl (h.cl i q)
 .rcases(hf i j).1 r with r|⟨-,r⟩
  .exact q.imp (λq=>h.cc i j q r) (λq=>g.cc i j q r)
  .exact .inr (g.cf j r)
end
open Sx (aO dw)
def jv (A:Nat->Pz) (k:Nat):Nat->Nat->Pz
 |0,_=>aN
 |l+1,n=>co (A n) (jv A k l (n+k))
def tailA (A:Nat->Pz) (k:Nat):Nat->Nat->Pz
 |0,_=>aN
 |t+1,n=>jg (co (A (n+k*t)) (tailA A k t n))
def ic (c:dw) (A:Nat->Pz) (k n:Nat):Pz:=
 if c.sign=42 then jg (yH (A n)) else if c.sign=43 then yH (A n) else if c.sign=63 then jg (A n) else
 if c.most=-1 then co (jv A k c.least.toNat n) (jg (yH (A (n+k*c.least.toNat))))
 else co (jv A k c.least.toNat n) (tailA A k (c.most.toNat-c.least.toNat) (n+k*c.least.toNat))
def gT (a:Nat->Pz) (k:Nat):List dw->Nat->Pz
 |[],n=>if k=0 then aN else a n
 |c::cs,n=>if jT k (c::cs)=0 then aN else ic c (gT a k cs) (jT k cs) n
mutual
def Dn:aO->Nat->Pz
 |.mk g S cs,n=>gT (match g with|[]=>xc S|c::gs=>λn=>fL (pj c n) (gK gs (n+eC c))) (zI g) cs.reverse n
def pj:List aO->Nat->Pz
 |[],_=>aN
 |p::ps,n=>co (Dn p n) (pj ps (n+bJ p))
def gK:List (List aO)->Nat->Pz
 |[],_=>a0
 |c::cs,n=>fL (pj c n) (gK cs (n+eC c))
end
def L9 (g:List (List aO)) (S:Nat->Bool):Nat->Pz:=match g with|[]=>xc S|_::_=>gK g
theorem zK (g:List (List aO)) (S:Nat->Bool) (cs:List dw) (n:Nat):Dn (.mk g S cs) n=gT (L9 g S) (zI g) cs.reverse n:=by
 cases g with
 |nil=>simp only[Dn];rfl
 |cons c gs=>
  simp only[Dn];rfl
theorem tF (A:Nat->Pz) (k:Nat):∀ l n,jv A k (l+1) n=co (jv A k l n) (A (n+k*l))
 |0,n=>by simp only[jv,jh,kD,Nat.mul_zero,Nat.add_zero]
 |l+1,n=>by
  rw[jv,tF A k l (n+k)];simp only[jv];rw[iy,show n+k+k*l=n+k*(l+1) by rw[mul_succ];omega]
structure PI (f:Mk) (k:Nat) (A:Nat->Pz):Prop where
 s:∀ m i,(A m).S i↔Rg m (m+k) i
 r:∀ n e m,n+k<=64->dE n e->∃ R,Fr n e (f e).2/\PR (f e).2 (Rg n (n+k)) (f e).1 (A m) R
theorem mq {A:Nat->Pz}{k:Nat} (h:∀ m i,(A m).S i↔Rg m (m+k) i):∀ l m i,(jv A k l m).S i↔Rg m (m+k*l) i
 |0,m,i=>⟨λq=>q.elim,λq=>by simp only[Nat.mul_zero,Nat.add_zero] at q;unfold Rg at q;omega⟩
 |l+1,m,i=>by
  simp only[jv,co,h,mq h l];unfold Rg;rw[mul_succ];omega
theorem jw {A:Nat->Pz}{k:Nat} (h:∀ m i,(A m).S i↔Rg m (m+k) i):∀ l m i,(tailA A k l m).S i↔Rg m (m+k*l) i
 |0,m,i=>⟨λq=>q.elim,λq=>by simp only[Nat.mul_zero,Nat.add_zero] at q;unfold Rg at q;omega⟩
 |l+1,m,i=>by
  simp only[tailA,jg,co,h,jw h l];unfold Rg;rw[mul_succ];omega
def Kv (S:Nat->Bool):PI (jZ S) 1 (xc S):=by
 refine⟨λm i=>by simp only[xc];unfold Rg;omega,λn e m hn he=>⟨λi j=>i=n/\j=m,⟨λi c hi=>?_,λi j hi=>?_⟩,?_⟩⟩<;>have hb:=he.b<;>have hf:=he.f
 .unfold jZ byt;simp[getD_eq_getElem?_getD,getElem?_append,show i<e.bs.length by omega]
 .grind [jZ,fol]
 have h1:∀ c,byt (jZ S e).2 n c=S c:=λc=>by
  unfold jZ byt;simp[getD_eq_getElem?_getD,hb]
 have h2:∀ j,¬ fol (jZ S e).2 n j:=λj q=>by grind [jZ,fol,gJ]
 have hp:(jZ S e).1=⟨fv n,fv n,false⟩:=by unfold jZ;rw[hb]
 have hm:∀ i,eQ (fv n) i↔i=n:=λi=>By ω
 rw[hp];refine⟨⟨?_,?_,?_,?_,?_⟩,?_,?_,?_,?_,?_,?_,?_,?_,fS.on S m⟩
 .rintro i j ⟨rfl,rfl⟩;exact⟨by unfold Rg;omega,rfl⟩
 .intro i hi;exact⟨m,by unfold Rg at hi;omega,rfl⟩
 .intro j hj;exact⟨n,rfl,hj⟩
 .omega
 .omega
 .grind [xc]
 .rintro i j ⟨rfl,rfl⟩;simp[hm,xc]
 .grind [xc]
 .rintro i j i2 j2 ⟨rfl,rfl⟩ -;exact⟨λq=>(h2 _ q).elim,λq=>q.elim⟩
 .simp[xc]
 .intro i q;have:=(hm i).1 q;unfold Rg;omega
 .intro i q;have:=(hm i).1 q;unfold Rg;omega
 .intro i j hi q;have:i=n:=by unfold Rg at hi;omega
  subst this;exact(h2 _ q).elim
section
variable {f:Mk}{k:Nat}{A:Nat->Pz} (h:mN f k) (g:PI f k A)
include g
def zL:PI (cD f) k (λn=>jg (A n)):=⟨g.s,λn e m hn he=>by
 obtain⟨R,hF,hR⟩:=g.r n e m hn he
 exact⟨R,hF,hR.may⟩⟩
include h
def FE:PI (FD f) k (λn=>yH (A n)):=⟨g.s,λn e m hn he=>by
 obtain⟨h1,h2⟩:=h n e hn he;obtain⟨R,hF,hR⟩:=g.r n e m hn he
 exact⟨R,hF.trans (Fr.join h1 h2 hn (λi q=>(hR.cl i q).1)),hR.again (λ_ _=>rfl) (λi j=>mO h1 h2 hn)⟩⟩
def BA {m n m':Nat}{e:Ex}{r:Pc}{B:Pz} (hm:m<=n) (hn:n+k<=64) (he:dE n e) (hr:PR e (Rg m n) r B R) (dk:∀ i,Rg m' (m'+k) i->¬ B.S i):∃ R',Fr m e (aA f r e).2/\PR (aA f r e).2 (Rg m (n+k)) (aA f r e).1 (co (A m') B) R':=by
 obtain⟨h1,h2⟩:=h n e hn he;obtain⟨Q,h3,hQ⟩:=g.r n e m' hn he;have:=hQ.join (e':=(f e).2.join (f e).1 r) (hr.frame h3) (λi q1 q2=>by unfold Rg at q1 q2;omega) (λi q=>dk i ((g.s m' i).1 q)) (λ_ _=>rfl) (λi j=>mO h1 h2 hn);exact⟨_,(h3.mono hm).trans (Fr.join h1 h2 hn (λi q=>by have:=(hQ.cl i q).1;omega)),this.sup (λi=>by unfold Rg;omega)⟩
theorem zM:∀(l m n m':Nat) (e:Ex) (r:Pc) (B:Pz) (R:Nat->Nat->Prop),m<=n->n+k*l<=64->dE n e->eE n r->PR e (Rg m n) r B R->(∀ i,Rg m' (m'+k*l) i->¬ B.S i)->∃ R',Fr m e (aC (aA f) l r e).2/\PR (aC (aA f) l r e).2 (Rg m (n+k*l)) (aC (aA f) l r e).1 (co (jv A k l m') B) R'
 |0,m,n,m',e,r,B,R,_,_,_,_,hr,_=>⟨R,Fr.refl _ _,by simpa only [aC,jv,kD,Nat.mul_zero,Nat.add_zero] using hr⟩
 |l+1,m,n,m',e,r,B,R,hm,hn,he,hp,hr,dk=>by
  rw[mul_succ] at hn dk ⊢;obtain⟨h1,h2⟩:=dV h (r:=r) (show n+k<=64 by omega) he hp;obtain⟨R1,f1,o⟩:=BA h g (m':=m'+k*l) hm ω he hr (λi q=>dk i (by unfold Rg at q ⊢;omega))
  obtain⟨R2,f2,d⟩:=zM l m (n+k) m' (aA f r e).2 (aA f r e).1 (co (A (m'+k*l)) B) R1 ω ω h1 h2 o (λi q=>by
   rintro(s|s)
   .have:=(g.s _ _).1 s;unfold Rg at q this;omega
   .exact dk i (by unfold Rg at q ⊢;omega) s)
  rw[tF,iy,show n+(k*l+k)=n+k+k*l by omega];exact⟨R2,f1.trans f2,d⟩
theorem BB:∀(t s m n m':Nat) (e:Ex) (r:Pc) (R:Nat->Nat->Prop),m<=n->n+k*t<=64->dE n e->eE n r->PR e (Rg m n) r (tailA A k s m') R->∃ R',Fr m e (aC (λr=>cD (aA f r)) t r e).2/\PR (aC (λr=>cD (aA f r)) t r e).2 (Rg m (n+k*t)) (aC (λr=>cD (aA f r)) t r e).1 (tailA A k (s+t) m') R'
 |0,s,m,n,m',e,r,R,_,_,_,_,hr=>⟨R,Fr.refl _ _,by simpa only [aC,Nat.mul_zero,Nat.add_zero] using hr⟩
 |t+1,s,m,n,m',e,r,R,hm,hn,he,hp,hr=>by
  rw[mul_succ] at hn ⊢;obtain⟨h1,h2⟩:=dV h (r:=r) (show n+k<=64 by omega) he hp
  obtain⟨R1,f1,l⟩:=BA h g (m':=m'+k*s) hm ω he hr (λi q=>by
   rw[jw g.s];unfold Rg at q ⊢
   omega)
  obtain⟨R2,f2,d⟩:=BB t (s+1) m (n+k) m' (aA f r e).2 (aA f r e).1.may R1 ω ω h1 h2.may l.may;rw[show s+(t+1)=s+1+t by omega,show n+(k*t+k)=n+k+k*t by omega];exact⟨R2,f1.trans f2,d⟩
def FF {c:dw} (hc:gI c):PI (dh f c) (k*eu c) (ic c A k):=by
 rcases hc with hs|hs|hs|⟨hs,h0,h3,h1⟩
 .have:eu c=1:=by simp[eu,hs]
  rw[this,Nat.mul_one];have e1:dh f c=cD (FD f):=by unfold dh;rw[Zi hs]
  have e2:ic c A k=λn=>jg (yH (A n)):=by funext n;unfold ic;rw[Zi hs]
  rw[e1,e2];exact zL (FE h g)
 .have:eu c=1:=by simp[eu,hs]
  rw[this,Nat.mul_one];have d:¬ c.sign=42:=by rw[hs];decide
  have e1:dh f c=FD f:=by unfold dh;rw[Zh d,Zi hs]
  have e2:ic c A k=λn=>yH (A n):=by funext n;unfold ic;rw[Zh d,Zi hs]
  rw[e1,e2];exact FE h g
 .have:eu c=1:=by simp[eu,hs]
  rw[this,Nat.mul_one];have d:¬ c.sign=42:=by rw[hs];decide
  have l:¬ c.sign=43:=by rw[hs];decide
  have e1:dh f c=cD f:=by unfold dh;rw[Zh d,Zh l,Zi hs]
  have e2:ic c A k=λn=>jg (A n):=by funext n;unfold ic;rw[Zh d,Zh l,Zi hs]
  rw[e1,e2];exact zL g
 .have d:¬ c.sign=42:=by rw[hs];decide
  have l:¬ c.sign=43:=by rw[hs];decide
  have o:¬ c.sign=63:=by rw[hs];decide
  rcases h1 with h1|h1
  .have:eu c=c.least.toNat+1:=by simp[eu,hs,h1]
   rw[this,mul_succ];have e1:dh f c=λe=>ei f c.least.toNat c.least.toNat (cD (FD f) e).1 (cD (FD f) e).2:=by unfold dh;rw[Zh d,Zh l,Zh o,Zi h1]
   have e2:ic c A k=λn=>co (jv A k c.least.toNat n) (jg (yH (A (n+k*c.least.toNat)))):=by funext n;unfold ic;rw[Zh d,Zh l,Zh o,Zi h1]
   rw[e1,e2];refine⟨λm i=>?_,λn e m hn he=>?_⟩
   .simp only[co,jg,yH,mq g.s,g.s];unfold Rg;omega
   .obtain⟨g1,g2⟩:=pA (uZ h) n e ω he;obtain⟨R,f1,hR⟩:=(zL (FE h g)).r n e (m+k*c.least.toNat) ω he
    obtain⟨R',f2,u⟩:=zM h g c.least.toNat n (n+k) m _ _ _ R ω ω g1 g2 hR (λi q s=>by
     have:=(g.s _ _).1 s;unfold Rg at q this
     omega)
    rw[show n+(k*c.least.toNat+k)=n+k+k*c.least.toNat by omega];simp only[ei,Nat.sub_self,aC];exact⟨R',f1.trans f2,u⟩
  .have hm:¬ c.most=-1:=ω;have:eu c=c.most.toNat:=by simp[eu,hs,hm]
   rw[this];have e1:dh f c=ei f c.least.toNat c.most.toNat eD:=by unfold dh;rw[Zh d,Zh l,Zh o,Zh hm]
   have e2:ic c A k=λn=>co (jv A k c.least.toNat n) (tailA A k (c.most.toNat-c.least.toNat) (n+k*c.least.toNat)):=by funext n;unfold ic;rw[Zh d,Zh l,Zh o,Zh hm]
   have w:k*c.most.toNat=k*(c.most.toNat-c.least.toNat)+k*c.least.toNat:=by rw[<-Nat.mul_add];congr 1;omega
   rw[e1,e2,w];refine⟨λm i=>?_,λn e m hn he=>?_⟩
   .simp only[co,mq g.s,jw g.s];unfold Rg;omega
   .obtain⟨R,f1,hR⟩:=BB h g (c.most.toNat-c.least.toNat) 0 n n (m+k*c.least.toNat) e eD _ zq ω he (eE.n n) ((Ir e).rg0 n);rw[Nat.zero_add] at hR
    obtain⟨g1,g2⟩:=gH (g:=λr=>cD (aA f r)) (k:=k) (λn e r hn he hr=>by
     obtain⟨q1,q2⟩:=dV h hn he hr
     exact⟨q1,q2.may⟩) (c.most.toNat-c.least.toNat) n e eD ω he (eE.n n)
    obtain⟨R',f2,u⟩:=zM h g c.least.toNat n (n+k*(c.most.toNat-c.least.toNat)) m _ _ _ R ω ω g1 g2 hR (λi q s=>by
     have:=(jw g.s _ _ _).1 s;unfold Rg at q this
     omega)
    rw[<-Nat.add_assoc];exact⟨R',f1.trans f2,u⟩
end
theorem FG {a:Mk}{k:Nat}{A:Nat->Pz} (h:mN a k) (g:PI a k A):∀ {cs:List dw},(∀ c∈cs,gI c)->PI (gV a k cs) (jT k cs) (gT A k cs)
 |[],_=>by
  by_cases e0:k=0
  .subst e0;refine⟨λm i=>by simp only[gT,if_true,aN,jT,Nat.add_zero];exact⟨λq=>q.elim,λq=>by unfold Rg at q;omega⟩,λn e m hn he=>?_⟩;simp only[gV,gT,if_true,jT,Nat.add_zero];exact⟨_,Fr.refl _ _,(Ir e).rg0 n⟩
  .refine⟨λm i=>by simp only[gT,Zh e0,jT];exact g.s m i,λn e m hn he=>?_⟩;simp only[gV,gT,Zh e0];exact g.r n e m hn he
 |c::cs,hc=>by
  by_cases e0:jT k (c::cs)=0
  .refine⟨λm i=>by simp only[gT,Zi e0,aN];rw[e0];exact⟨λq=>q.elim,λq=>by unfold Rg at q;omega⟩,λn e m hn he=>?_⟩;simp only[gV,gT,Zi e0];rw[e0];exact⟨_,Fr.refl _ _,(Ir e).rg0 n⟩
  .have d:∀ c∈cs,gI c:=λc hc'=>hc c (by simp[hc'])
   have:=FF (qs h d) (FG h g d) (hc c χ);refine⟨λm i=>by simp only[gT,Zh e0];exact this.s m i,λn e m hn he=>?_⟩;simp only[gV,gT,Zh e0];exact this.r n e m hn he
mutual
theorem JF:∀(p:aO),iX p->PI (bp p) (bJ p) (Dn p)
 |.mk g S cs,h=>by
  simp only[iX] at h;rw[ix,zJ,show Dn (.mk g S cs)=gT (L9 g S) (zI g) cs.reverse from funext λn=>zK g S cs n]
  match g,h with
  |[],h=>exact FG (Bw S) (Kv S) (λc hc=>h.1 c (by simpa using hc))
  |c::gs,h=>
   rw[kC];refine FG (λn e hn he=>lp (c::gs) h.2 n e fF hn he (eE.zero n)) ⟨λm i=>ve (c::gs) h.2 m i,λn e m hn he=>?_⟩ (λc hc=>h.1 c (by simpa using hc));obtain⟨R,hF,hR⟩:=zN (c::gs) h.2 n n m e fF a0 _ zq hn he (eE.zero n) ((Li e).rg0 n) (λi _ q=>q);rw[nP] at hR;exact⟨R,hF,hR⟩
theorem xd:∀(ps:List aO),dW ps->∀ m i,(pj ps m).S i↔Rg m (m+eC ps) i
 |[],_,m,i=>by simp only[pj,aN,eC,Nat.add_zero];exact⟨λq=>q.elim,λq=>by unfold Rg at q;omega⟩
 |p::ps,h,m,i=>by
  simp only[dW] at h;simp only[pj,co,eC,(JF p h.1).s,xd ps h.2];unfold Rg;omega
theorem ve:∀(cs:List (List aO)),aX cs->∀ m i,(gK cs m).S i↔Rg m (m+aY cs) i
 |[],_,m,i=>by simp only[gK,a0,aY,Nat.add_zero];exact⟨λq=>q.elim,λq=>by unfold Rg at q;omega⟩
 |c::cs,h,m,i=>by
  simp only[aX] at h;simp only[gK,fL,aY,xd c h.1,ve cs h.2];unfold Rg;omega
theorem JG:∀(ps:List aO),dW ps->∀(m n m':Nat) (e:Ex) (a:Pc) (A:Pz) (R:Nat->Nat->Prop),m<=n->n+eC ps<=64->dE n e->eE n a->PR e (Rg m n) a A R->(∀ i,Rg m' (m'+eC ps) i->¬ A.S i)->∃ R',Fr m e (iw ps a e).2/\PR (iw ps a e).2 (Rg m (n+eC ps)) (iw ps a e).1 (co A (pj ps m')) R'
 |[],_,m,n,m',e,a,A,R,_,_,_,_,hA,_=>⟨R,Fr.refl _ _,by simpa only [iw,eC,pj,jh,Nat.add_zero] using hA⟩
 |p::ps,h,m,n,m',e,a,A,R,hm,hn,he,ha,hA,dk=>by
  simp only[dW] at h;simp only[eC] at hn dk ⊢;have hi:=JF p h.1;obtain⟨h1,h2⟩:=fK p h.1 n e ω he;obtain⟨Q,h3,hQ⟩:=hi.r n e m' ω he;have d:=ha.mono (show n<=n+bJ p by omega);have hj:=(hA.frame h3).join (e':=(bp p e).2.join a (bp p e).1) hQ (λi q1 q2=>by unfold Rg at q1 q2;omega) (λi q s=>dk i (by have:=(hi.s _ _).1 s;unfold Rg at this ⊢;omega) q) (λ_ _=>rfl) (λi j=>mO h1 d ω)
  obtain⟨R',l,o⟩:=JG ps h.2 m (n+bJ p) (m'+bJ p) ((bp p e).2.join a (bp p e).1) (a.join (bp p e).1) (co A (Dn p m')) _ ω ω (h1.join h2) (d.join h2) (hj.sup (T':=Rg m (n+bJ p)) (λi=>by unfold Rg;omega)) (λi q=>by
   rintro(s|s)
   .exact dk i (by unfold Rg at q ⊢;omega) s
   .have:=(hi.s _ _).1 s;unfold Rg at q this
    omega)
  simp only[iw,pj];rw[<-Nat.add_assoc,<-iy];exact⟨R',((h3.mono hm).trans (Fr.join h1 d ω (λi q=>(hA.cl i q).1))).trans l,o⟩
theorem zN:∀(cs:List (List aO)),aX cs->∀(m n m':Nat) (e:Ex) (a:Pc) (A:Pz) (R:Nat->Nat->Prop),m<=n->n+aY cs<=64->dE n e->eE n a->PR e (Rg m n) a A R->(∀ i,Rg m' (m'+aY cs) i->¬ A.S i)->∃ R',Fr m e (bF cs a e).2/\PR (bF cs a e).2 (Rg m (n+aY cs)) (bF cs a e).1 (fL A (gK cs m')) R'
 |[],_,m,n,m',e,a,A,R,_,_,_,_,hA,_=>⟨R,Fr.refl _ _,by simpa only [bF,aY,gK,lq,Nat.add_zero] using hA⟩
 |c::cs,h,m,n,m',e,a,A,R,hm,hn,he,ha,hA,dk=>by
  simp only[aX] at h;simp only[aY] at hn dk ⊢;obtain⟨h1,h2⟩:=qt c h.1 n e eD ω he (eE.n n);obtain⟨Q,h3,hQ⟩:=JG c h.1 n n m' e eD aN _ zq ω he (eE.n n) ((Ir e).rg0 n) (λi _ q=>q);rw[kD] at hQ;have l:=(hA.frame h3).alt hQ (λi q1 q2=>by unfold Rg at q1 q2;omega) (λi q s=>dk i (by have:=(xd c h.1 _ _).1 s;unfold Rg at this ⊢;omega) q)
  obtain⟨R',d,o⟩:=zN cs h.2 m (n+eC c) (m'+eC c) (iw c eD e).2 (a.alt (iw c eD e).1) (fL A (pj c m')) _ ω ω h1 ((ha.mono ω).alt h2) (l.sup (T':=Rg m (n+eC c)) (λi=>by unfold Rg;omega)) (λi q=>by
   rintro(s|s)
   .exact dk i (by unfold Rg at q ⊢;omega) s
   .have:=(xd c h.1 _ _).1 s;unfold Rg at q this
    omega)
  simp only[bF,gK];rw[<-Nat.add_assoc,<-qu];exact⟨R',(h3.mono hm).trans d,o⟩
end
def Is {cs:List (List aO)} (h:aX cs) (hn:aY cs<=64):∃ R,PR (bF cs fF ⟨[],[]⟩).2 (Rg 0 (aY cs)) (bF cs fF ⟨[],[]⟩).1 (gK cs 0) R:=by
 have h0:dE 0 ⟨[],[]⟩:=⟨rfl,rfl,λx hx=>by simp at hx⟩
 obtain⟨R,-,hR⟩:=zN cs h 0 0 0 ⟨[],[]⟩ fF a0 _ zq ω h0 (eE.zero 0) ((Li _).rg0 0) (λi _ q=>q);rw[nP,Nat.zero_add] at hR;exact⟨R,hR⟩
open Sx (aO dw)
def zO {v l:Int} (h:Sx.bm v l=true):v<=30:=by
 unfold Sx.bm at h
 split at h
 .simp at h
 .omega
def qv {l v:Int}{b:Bool}{z:Int} (hv:0<=v/\v<=30) (h:Sx.aK l v b r=.ok z r'):0<=z/\z<=30/\l<=z:=by
 induction r generalizing v b with
 |nil=>
  simp only[Sx.aK] at h;split at h
  .rename_i hc;injection h with e _;subst e;exact⟨hv.1,hv.2,hc.2⟩
  .simp at h
 |cons c t ih=>
  simp only[Sx.aK] at h
  split at h
  .rename_i hc;exact ih ⟨ω,zO hc.2.2.2⟩ h
  .split at h
   .rename_i hc;injection h with e _;subst e;exact⟨hv.1,hv.2,hc.2⟩
   .simp at h
def zP {a b:Int} (h:Sx.dO r=.ok (a,b) r'):0<=a/\a<=30/\(b=-1\/(a<=b/\b<=30)):=by
 simp only[Sx.dO] at h
 split at h
 .simp at h
 .rename_i h1;have:=qv ⟨ω,ω⟩ h1
  split at h
  .injection h with e _;injection e with e1 e2;omega
  .split at h
   .simp at h
   .rename_i h2;have:=qv ⟨ω,ω⟩ h2
    split at h
    .injection h with e _;injection e with e1 e2;omega
    .simp at h
  .injection h with e _;injection e with e1 e2;omega
  .simp at h
def zQ {n:Nat}{cs:List dw} (h:Sx.aJ n r=.ok cs r'):∀ c∈cs,gI c:=by
 induction n generalizing r cs with
 |zero=>simp[Sx.aJ] at h
 |succ n ih=>
  simp only[Sx.aJ] at h
  split at h
  .split at h
   .rename_i hc
    split at h
    .rename_i h1;injection h with e1 e;subst e;subst e1;intro c hm;rcases mem_cons.1 hm with rfl|hm
     .rcases hc with rfl|rfl|rfl
      .exact .inl rfl
      .exact .inr (.inl rfl)
      .exact .inr (.inr (.inl rfl))
     .exact ih h1 c hm
    .simp at h
   .split at h
    .rename_i hc
     split at h
     .simp at h
     .rename_i h1;have hb:=zP h1
      split at h
      .rename_i h2;injection h with e1 e;subst e;subst e1;intro c hm;rcases mem_cons.1 hm with rfl|hm
       .exact .inr (.inr (.inr ⟨hc,hb⟩))
       .exact ih h2 c hm
      .simp at h
    .injection h with e1 e;subst e;subst e1;simp
  .injection h with e1 e;subst e;subst e1;simp
def MI (n:Nat) :
  (∀ r cs r',Sx.ay n r=.ok cs r'->aX cs) /\
  (∀ r ps r',Sx.bB n r=.ok ps r'->dW ps) /\
  (∀ r p r',Sx.dA n r=.ok p r'->iX p) /\
  (∀ r g B r',Sx.bV n r=.ok (g,B) r'->aX g):=by
 induction n with
 |zero=>exact⟨λr cs r' h=>by simp[Sx.ay] at h,λr cs r' h=>by simp[Sx.bB] at h,λr cs r' h=>by simp[Sx.dA] at h,λr g B r' h=>by simp[Sx.bV] at h⟩
 |succ n ih=>
  obtain⟨i1,i2,i3,i4⟩:=ih;refine⟨λr cs r' h=>?_,λr ps r' h=>?_,λr p r' h=>?_,λr g B r' h=>?_⟩
  .simp only[Sx.ay] at h
   split at h
   .simp at h
   .rename_i c r1 h1;have l1:=i2 _ _ _ h1
    split at h
    .split at h
     .rename_i h2;injection h with e1 e2;subst e1;subst e2;simp only[aX];exact⟨l1,i1 _ _ _ h2⟩
     .simp at h
    .injection h with e1 e2;subst e1;subst e2;simp only[aX];exact⟨l1,trivial⟩
  .simp only[Sx.bB] at h
   split at h
   .split at h
    .simp at h
    .rename_i h1;have l1:=i3 _ _ _ h1
     split at h
     .rename_i h2;injection h with e1 e2;subst e1;subst e2;simp only[dW];exact⟨l1,i2 _ _ _ h2⟩
     .simp at h
   .injection h with e1 e2;subst e1;subst e2;simp only[dW]
  .simp only[Sx.dA] at h
   split at h
   .simp at h
   .rename_i g S r1 h1;have l1:=i4 _ _ _ _ h1
    split at h
    .rename_i h2;injection h with e1 e2;subst e1;subst e2;simp only[iX];exact⟨zQ h2,l1⟩
    .simp at h
  .simp only[Sx.bV] at h
   split at h
   .simp at h
   .split at h
    .split at h
     .simp at h
     .rename_i h1;have l1:=i1 _ _ _ h1
      split at h
      .injection h with e1 e2;injection e1 with e3 e4;subst e3;exact l1
      .simp at h
    .split at h
     .split at h
      .injection h with e1 e2;injection e1 with e3 e4;subst e3;simp only[aX]
      .simp at h
     .split at h
      .split at h
       .injection h with e1 e2;injection e1 with e3 e4;subst e3;simp only[aX]
       .simp at h
      .split at h
       .injection h with e1 e2;injection e1 with e3 e4;subst e3;simp only[aX]
       .injection h with e1 e2;injection e1 with e3 e4;subst e3;simp only[aX]
def ai {α:Type} [DecidableEq α] (m:List α) (xs:List α):List α:=xs.foldl aq m
section
variable {α:Type} [DecidableEq α]
theorem ji (m:List α) (x:α) (xs:List α):ai m (x::xs)=ai (aq m x) xs:=rfl
theorem cO (m xs ys:List α):ai m (xs++ys)=ai (ai m xs) ys:=by simp[ai]
theorem f_ {l:List α}{x y:α}:y∈aq l x↔y∈l\/y=x:=by
 unfold aq
 split
 .rename_i h;exact⟨.inl,λq=>q.elim id (λe=>e▸h)⟩
 .simp
theorem aH {m xs:List α}{y:α}:y∈ai m xs↔y∈m\/y∈xs:=by
 induction xs generalizing m with
 |nil=>simp[ai]
 |cons x xs ih=>rw[ji,ih,f_];simp[or_assoc]
theorem bR {m:List α} (h:m.Nodup) (xs:List α):(ai m xs).Nodup:=by
 induction xs generalizing m with
 |nil=>exact h
 |cons x xs ih=>exact ih (gF h x)
def lu (l:List α) (x:α):l <+: aq l x:=by
 unfold aq
 split
 .exact prefix_refl _
 .exact prefix_append _ _
def fj (m xs:List α):m <+: ai m xs:=by
 induction xs generalizing m with
 |nil=>exact prefix_refl _
 |cons x xs ih=>exact(lu m x).trans (ih _)
def lv {m m':List α} (h:m <+: m') {x:α} (hx:x∈m):m'.idxOf x=m.idxOf x:=by
 obtain⟨r,rfl⟩:=h;simp[idxOf_append,hx]
def tG (l:List α) (x:α):(aq l x).length<=l.length+1:=by
 unfold aq
 split<;>simp
theorem c_ (m xs:List α):(ai m xs).length<=m.length+xs.length:=by
 induction xs generalizing m with
 |nil=>simp[ai]
 |cons x xs ih=>rw[ji];have:=ih (aq m x);have:=tG m x;simp;omega
def xg (m xs:List α):m.length<=(ai m xs).length:=(fj m xs).length_le
theorem fA {m xs:List α}{x:α} (h:x∈xs):(ai m xs).idxOf x<(ai m xs).length:=Zq (aH.2 (.inr h))
theorem FH (m xs:List α) (x:α):(ai m (x::xs)).idxOf x=(aq m x).idxOf x:=lv (fj _ _) (f_.2 (.inr rfl))
def FI {m xs:List α} (k:Nat) {x:α} (hx:x∈xs.take k):(ai m xs).idxOf x=(ai m (xs.take k)).idxOf x:=by
 conv=>lhs;rw[<-take_append_drop k xs,cO]
 exact lv (fj _ _) (aH.2 (.inr hx))
def dG (m:List α) {xs:List α} (h:k<xs.length):ai m (xs.take (k+1))=aq (ai m (xs.take k)) xs[k]:=by
 rw[Zl h,cO];rfl
def qw (m:List α) {xs:List α} (h:k<xs.length):(ai m xs).idxOf xs[k]=(aq (ai m (xs.take k)) xs[k]).idxOf xs[k]:=by
 rw[<-dG m h];refine FI (k+1) ?_;rw[Zl h];exact mem_append_right _ (mem_singleton.2 rfl)
theorem jx {m:List α}{x:α}:(aq m x).idxOf x=m.length↔x ∉ m:=by
 constructor
 .intro h hx;have:=Zq hx;rw[aq,Zi hx] at h;omega
 .intro hx;rw[aq,Zh hx];simp[idxOf_append,hx]
end
def fw (s:W4) (b:Bool):fZ:=⟨s.x0,s.x1,s.x2,s.x3,b⟩
def fZ.w (s:fZ):W4:=⟨s.x0,s.x1,s.x2,s.x3⟩
def fC (fs:List W4) (is:List Nat) (a:W4):W4:=is.foldl (λa i=>a.or (fs.getD i W4.none)) a
structure Sr where
 fs:List W4
 whole:Pc
 front:Bool
def bq (s:Sr) (q:fZ) (rd:W4):fZ:=
 if s.front then fw (fC s.fs (q.w.and rd).all W4.none) (!((q.w.and rd).and s.whole.last).isE)
 else fw ((fC s.fs (q.w.and rd).all W4.none).or s.whole.first) (!((q.w.and rd).and s.whole.last).isE||s.whole.empty)
def nu (b:Nat):List (Nat->Bool)->Nat->W4->W4
 |[],_,a=>a
 |S::bs,i,a=>nu b bs (i+1) (if S b then a.or (fv i) else a)
def eS (bs:List (Nat->Bool)):List W4:=(List.range 256).map λb=>nu b bs 0 W4.none
def bG {α β:Type} [DecidableEq α] (step:α->β->α) (rs:List β) (limit:Nat):Nat->List α->Nat->List (List Nat)->Option (List α×List (List Nat))
 |0,_,_,_=>none
 |f+1,met,tk,rows=>match met[tk]? with
  |none=>some (met,rows)
  |some q=>if limit<(ai met (rs.map (step q))).length then none else bG step rs limit f (ai met (rs.map (step q))) (tk+1) (rows++[(rs.map (step q)).map (ai met (rs.map (step q))).idxOf])
structure Tn where
 front:Bool
 back:Bool
 cls:List Nat
 acc:List Bool
 next:List (List Nat)
structure iH (n k:Nat) (t:Tn):Prop where
 n1:1<=n
 cl:t.cls.length=256
 ck:∀ c∈t.cls,c<k
 al:t.acc.length=n
 nl:t.next.length=n
 r:∀ r∈t.next,r.length=k/\∀ x∈r,x<n
structure nQ (k:Nat) {α:Type} (met:List α) (tk:Nat) (rows:List (List Nat)):Prop where
 l:rows.length=tk
 t:tk<=met.length
 r:∀ r∈rows,r.length=k/\∀ x∈r,x<met.length
theorem mP {α β:Type} [DecidableEq α] {step:α->β->α}{rs:List β}{limit:Nat}:∀ {f:Nat}{met:List α}{tk:Nat}{rows:List (List Nat)}{met':List α}{rows':List (List Nat)},met.length<=limit->nQ rs.length met tk rows->bG step rs limit f met tk rows=some (met',rows')->met'.length<=limit/\rows'.length=met'.length/\nQ rs.length met' met'.length rows'/\met <+: met'
 |0,met,tk,rows,met',rows',_,h,e=>by simp[bG] at e
 |f+1,met,tk,rows,met',rows',hm,h,e=>by
  simp only[bG] at e
  split at e
  .rename_i hn;simp at e;obtain⟨rfl,rfl⟩:=e;have h1:=List.getElem?_eq_none_iff.1 hn;have h2:=h.t;have h3:=h.l;have:tk=met.length:=ω;subst this;exact⟨hm,h.l,h,prefix_refl _⟩
  .rename_i q hq
   split at e
   .simp at e
   .rename_i hl;have hp:=fj met (rs.map (step q));have d:=hp.length_le;have l:=(List.getElem?_eq_some_iff.1 hq).1;have:=mP ω (tk:=tk+1) ⟨by simp[h.l],ω,λr hr=>?_⟩ e
    .exact⟨this.1,this.2.1,this.2.2.1,hp.trans this.2.2.2⟩
    .simp at hr;rcases hr with hr|rfl
     .exact⟨(h.r r hr).1,λx hx=>Zd ((h.r r hr).2 x hx) d⟩
     .refine⟨χ,λx hx=>?_⟩;simp only[mem_map] at hx;obtain⟨y,hy,rfl⟩:=hx;exact fA (mem_map.2 ⟨y,hy,rfl⟩)
def bS (p:Sx.sT) (limit:Nat):Option Tn:=
 if 64<aY p.choices then none else
 match bG (bq ⟨(bF p.choices fF ⟨[],[]⟩).2.fs,(bF p.choices fF ⟨[],[]⟩).1,p.front⟩) (ai [] (eS (bF p.choices fF ⟨[],[]⟩).2.bs)) limit 202 [fw (bF p.choices fF ⟨[],[]⟩).1.first (bF p.choices fF ⟨[],[]⟩).1.empty] 0 [] with
 |none=>none
 |some x=>some ⟨p.front,p.back,(eS (bF p.choices fF ⟨[],[]⟩).2.bs).map (ai [] (eS (bF p.choices fF ⟨[],[]⟩).2.bs)).idxOf,x.1.map (·.ends),x.2⟩
open Sx (aO dw)
theorem Sp.orS {n:Nat}{fs:List W4} (h:∀ x∈fs,Sp n x):∀(is:List Nat) {a:W4},Sp n a->Sp n (fC fs is a)
 |[],a,ha=>ha
 |i::is,a,ha=>by
  refine Sp.orS h is (ha.or ?_);rw[getD_eq_getElem?_getD]
  cases q:fs[i]? with
  |none=>exact Sp.none n
  |some x=>exact h x (mem_of_getElem? q)
theorem tH {fs:List W4}:∀(is:List Nat) {a:W4}{j:Nat},eQ (fC fs is a) j↔eQ a j\/∃ i,i∈is/\eQ (fs.getD i W4.none) j
 |[],a,j=>by simp[fC]
 |i::is,a,j=>by
  have:=tH (fs:=fs) is (a:=a.or (fs.getD i W4.none)) (j:=j);unfold fC at this ⊢;rw[foldl_cons,this,iY]
  constructor
  .rintro((h|h)|⟨k,hk,h⟩)
   .exact .inl h
   .exact .inr ⟨i,χ,h⟩
   .exact .inr ⟨k,by simp[hk],h⟩
  .rintro(h|⟨k,hk,h⟩)
   .exact .inl (.inl h)
   .rcases mem_cons.1 hk with rfl|hk
    .exact .inl (.inr h)
    .exact .inr ⟨k,hk,h⟩
theorem BC {b:Nat}:∀(bs:List (Nat->Bool)) (i:Nat) (a:W4) {j:Nat},i+bs.length<=64->(eQ (nu b bs i a) j↔eQ a j\/(i<=j/\bs.getD (j-i) (λ_=>false) b=true))
 |[],i,a,j,_=>by simp[nu]
 |S::bs,i,a,j,h=>by
  simp only[length_cons] at h;simp only[nu];rw[BC bs (i+1) _ ω];have h1:eQ (if S b then a.or (fv i) else a) j↔eQ a j\/(j=i/\S b=true):=by
   cases S b<;>simp[iY,By (show i<64 by omega)]
  rw[h1];rcases Nat.lt_trichotomy j i with q|q|q
  .have q1:¬ j=i:=ω;have q2:¬ i<=j:=ω;have q3:¬ i+1<=j:=ω;simp[q1,q2,q3]
  .subst q;have q3:¬ j+1<=j:=ω;simp[q3]
  .have q1:¬ j=i:=ω;have q2:i<=j:=ω;have q3:i+1<=j:=ω;have q4:j-i=(j-(i+1))+1:=ω;simp only[q1,q2,q3,q4,getD_cons_succ,false_and,or_false,true_and]
def bU {α:Type} [DecidableEq α] (l:List α) (x:α):Nat:=l.idxOf x
def eZ {α:Type} [DecidableEq α] {l:List α}{x:α} (h:x∈l):bU l x<l.length:=Zq h
def gd (acc:List Bool):List UInt8:=acc.map λb=>if b then 1 else 0
def dX (bl:List UInt8) (i:Nat) (row:List Nat):List UInt8:=bl.getD i 0::row.map λx=>bl.getD x 0
def bN (bl:List UInt8) (next:List (List Nat)):List (List UInt8):=next.mapIdx (dX bl)
def e_ (next:List (List Nat)):Nat->List UInt8->Nat->List UInt8
 |0,bl,_=>bl
 |f+1,bl,many=>if many<(ai [] (bN bl next)).length then e_ next f ((bN bl next).map λl=>UInt8.ofNat (bU (ai [] (bN bl next)) l)) (ai [] (bN bl next)).length else bl
def iJ (bl:List UInt8) (next:List (List Nat)) (c:Nat):List UInt8:=next.map λrow=>bl.getD (row.getD c 0) 0
def bD (t:Tn):List UInt8:=e_ t.next 202 (gd t.acc) 0
def bh (t:Tn) (bl:List UInt8):List (List UInt8):=t.cls.map (iJ bl t.next)
def fD (cls:List Nat) (cols:List (List UInt8)):List Nat:=(ai [] cols).map λcol=>cls.getD (bU cols col) 0
def bH (t:Tn) (bl:List UInt8) (b:UInt8) (old:Nat):UInt8:=bl.getD ((t.next.getD (bl.idxOf b) []).getD old 0) 0
def iZ (t:Tn) (bl:List UInt8):Option (List UInt8×List (List Nat)):=bG (bH t bl) (fD t.cls (bh t bl)) 256 258 [bl.getD 0 0] 0 []
def aG (t:Tn):Tn:=match iZ t (bD t) with
 |none=>t
 |some x=>⟨t.front,t.back,(bh t (bD t)).map (bU (ai [] (bh t (bD t)))),x.1.map λb=>t.acc.getD ((bD t).idxOf b) false,x.2⟩
theorem nS:∀(n:Nat) (l:List Nat),l.Nodup->(∀ x∈l,x<n)->l.length<=n
 |0,l,_,h=>by
  match l,h with
  |[],_=>simp
  |a::l,h=>exact absurd (h a χ) ω
 |n+1,l,hd,h=>by
  have h1:=nS n (l.erase n) (hd.erase n) (λx hx=>by
   have h2:=h x (mem_of_mem_erase hx);have h3:x≠n:=λe=>by subst e;exact(hd.mem_erase_iff.1 hx).1 rfl
   omega)
  rw[length_erase] at h1
  split at h1<;>omega
def mQ {l:List UInt8} (h:l.Nodup):l.length<=256:=by
 have:=nS 256 (l.map UInt8.toNat) (pairwise_map.2 (h.imp λhab e=>hab (UInt8.toNat_inj.1 e))) (λx hx=>by
  simp only[mem_map] at hx;obtain⟨y,_,rfl⟩:=hx
  exact y.toNat_lt)
 simpa using this
theorem tI {α β:Type} [DecidableEq α] {step:α->β->α}{rs:List β}{limit:Nat} (hb:∀ l:List α,l.Nodup->l.length<=limit):∀(f:Nat) (met:List α) (tk:Nat) (rows:List (List Nat)),met.Nodup->tk<=met.length->limit<f+tk->∃ x,bG step rs limit f met tk rows=some x
 |0,met,tk,rows,hd,h1,h2=>by have:=hb met hd;omega
 |f+1,met,tk,rows,hd,h1,h2=>by
  simp only[bG]
  split
  .exact⟨_,rfl⟩
  .rename_i q hq;have d:=bR hd (rs.map (step q));have:=hb _ d;rw[Zh ω];have m:=(List.getElem?_eq_some_iff.1 hq).1;have:=xg met (rs.map (step q));exact tI hb f _ (tk+1) _ d ω ω
theorem mt {α β:Type} [DecidableEq α] {step:α->β->α}{rs:List β}{limit:Nat}:∀ {f:Nat}{met:List α}{tk:Nat}{rows:List (List Nat)}{x:List α×List (List Nat)},met.Nodup->bG step rs limit f met tk rows=some x->x.1.Nodup
 |0,met,tk,rows,x,_,e=>by simp[bG] at e
 |f+1,met,tk,rows,x,hd,e=>by
  simp only[bG] at e
  split at e
  .simp at e;subst e;exact hd
  .split at e
   .simp at e
   .exact mt (bR hd _) e
theorem qy {α β:Type} [DecidableEq α] {step:α->β->α}{rs:List β}{limit:Nat} (P:α->Prop) (hP:∀ q r,P q->r∈rs->P (step q r)):∀ {f:Nat}{met:List α}{tk:Nat}{rows:List (List Nat)}{x:List α×List (List Nat)},(∀ q∈met,P q)->bG step rs limit f met tk rows=some x->∀ q∈x.1,P q
 |0,met,tk,rows,x,_,e=>by simp[bG] at e
 |f+1,met,tk,rows,x,hd,e=>by
  simp only[bG] at e
  split at e
  .simp at e;subst e;exact hd
  .rename_i q hq
   split at e
   .simp at e
   .refine qy P hP (λy hy=>?_) e;rcases aH.1 hy with hy|hy
    .exact hd y hy
    .obtain⟨r,hr,rfl⟩:=mem_map.1 hy;exact hP q r (hd q (mem_of_getElem? hq)) hr
theorem jy (next:List (List Nat)):∀(f:Nat) (bl:List UInt8) (many:Nat),bl.length=next.length->(e_ next f bl many).length=next.length
 |0,bl,many,h=>h
 |f+1,bl,many,h=>by
  simp only[e_]
  split
  .exact jy next f _ _ (by simp[bN])
  .exact h
def kE (t:Tn) (bl:List UInt8):∃ x,iZ t bl=some x:=tI (λl h=>mQ h) 258 _ 0 [] χ χ ω
def Do {n k:Nat}{t:Tn} (h:iH n k t):∃ n' k',n'<=n/\iH n' k' (aG t):=by
 obtain⟨x,hx⟩:=kE t (bD t);have u:(bD t).length=n:=(jy _ _ _ _ (by simp[gd,h.al,h.nl])).trans h.nl;have hn:=h.n1;unfold aG;rw[hx];unfold iZ at hx;obtain⟨h1,h2,h3,h4⟩:=mP (α:=UInt8) (show[_].length<=256 by simp) (show nQ _ [_] 0 [] from⟨rfl,Zk _,λr hr=>absurd hr χ⟩) hx;have I:=mt χ hx;have d:∀ q∈x.1,q∈bD t:=by
  refine qy (·∈bD t) (λq r hq hr=>?_) (λq hq=>?_) hx
  .have hi:=Zq hq;unfold bH;rw[u] at hi;have C:(bD t).idxOf q<t.next.length:=by rw[h.nl];exact hi
   have o:=h.r _ (Zg C);rw[getD_eq_getElem?_getD (l:=t.next),Zj C,Option.getD_some];have G:r<k:=by
    unfold fD at hr;simp only[mem_map] at hr;obtain⟨F,hc,rfl⟩:=hr;have H:F∈bh t (bD t):=by simpa using aH.1 hc
    have hl:=eZ H;have E:bU (bh t (bD t)) F<t.cls.length:=by simpa [bh] using hl
    rw[getD_eq_getElem?_getD,Zj E,Option.getD_some];exact h.ck _ (Zg E)
   have w:r<(t.next[(bD t).idxOf q]).length:=by rw[o.1];exact G
   rw[getD_eq_getElem?_getD (l:=t.next[_]),Zj w,Option.getD_some];have h5:=o.2 _ (Zg w);rw[getD_eq_getElem?_getD,Zj ω,Option.getD_some];exact Zg _
  .simp at hq;subst hq;rw[<-getD_eq_getElem?_getD,getD_eq_getElem?_getD,Zj ω,Option.getD_some];exact Zg _
 have D:x.1.length<=n:=by
  have:=nS n (x.1.map (bD t).idxOf) (pairwise_map.2 (Pairwise.imp_of_mem (λ{a b} ha hb hab e=>hab (by
   have h5:=Zq (d a ha);have h6:=Zq (d b hb);rw[<-getElem_idxOf h5,<-getElem_idxOf h6]
   simp only[e])) I)) (λy hy=>by
   simp only[mem_map] at hy;obtain⟨z,hz,rfl⟩:=hy
   rw[<-u];exact Zq (d z hz))
  simpa using this
 have h5:=h4.length_le;simp at h5;refine⟨x.1.length,(fD t.cls (bh t (bD t))).length,D,⟨ω,by simp[bh,h.cl],λc hc=>?_,χ,h2,h3.r⟩⟩;simp only[mem_map] at hc;obtain⟨y,hy,rfl⟩:=hc
 simpa [fD,bU] using fA (m:=[]) hy
def fm (t:Tn):Tb:=⟨t.front,t.back,0,t.cls.map UInt8.ofNat,t.acc,t.next.map λr=>r.map Int.ofNat⟩
theorem xh {α:Type} [DecidableEq α]:∀(xs m:List α),(ai m xs).length<=256->jc m.length ((xs.map (ai m xs).idxOf).map UInt8.ofNat)=some (ai m xs).length
 |[],m,_=>by simp[jc,ai]
 |x::xs,m,h=>by
  have ih:=xh xs (aq m x) h;have hp:=(fj (aq m x) xs).length_le;have d:(aq m x).idxOf x<(aq m x).length:=Zq (f_.2 (.inr rfl));rw[map_cons,map_cons,jc,FH];have hu:(UInt8.ofNat ((aq m x).idxOf x)).toNat=(aq m x).idxOf x:=by
   rw[UInt8.toNat_ofNat'];exact mod_eq_of_lt (by rw[ji] at h;omega)
  rw[hu];have e:max m.length ((aq m x).idxOf x+1)=(aq m x).length:=by
   by_cases hx:x∈m
   .have:=Zq hx;rw[aq,Zi hx] at d ⊢;omega
   .have:=jx.2 hx;rw[this,aq,Zh hx];simp
  have e2:¬ m.length<(aq m x).idxOf x:=by
   have:=tG m x;omega
  rw[Zh e2,e];exact ih
def Dq {n k:Nat}{t:Tn} (h:iH n k t) (hn:n<=200):mh (fm (aG t))=true:=by
 obtain⟨n',k',h1,h2⟩:=Do h;obtain⟨x,hx⟩:=kE t (bD t);have m:(aG t).cls=(bh t (bD t)).map (bU (ai [] (bh t (bD t)))):=by unfold aG;rw[hx]
 have hk:(ai [] (bh t (bD t))).length<=256:=by
  have:=c_ [] (bh t (bD t))
  simpa [bh,h.cl] using this
 have hc:=xh (bh t (bD t)) [] hk;have l:(ai [] (bh t (bD t))).length=k':=by
  have:=h2.n1;have h3:=h2.nl;have h4:=h2.r;have e:∀ r∈(aG t).next,r.length=(ai [] (bh t (bD t))).length:=by
   intro r hr;unfold iZ at hx;obtain⟨g1,g2,g3,g4⟩:=mP (α:=UInt8) (show[_].length<=256 by simp) (show nQ _ [_] 0 [] from⟨rfl,Zk _,λr hr=>absurd hr χ⟩) hx;have:r∈x.2:=by
    have hq:(aG t).next=x.2:=by unfold aG iZ;rw[hx]
    rw[hq] at hr;exact hr
   rw[(g3.r r this).1];simp[fD]
  have d:0<(aG t).next.length:=ω;rw[<-e _ (Zg d),(h4 _ (Zg d)).1]
 have w:=h2.al;have u:=h2.nl;have o:=h2.n1;unfold mh;have ec:iG (ba (fm (aG t)).cls)=some k':=by
  unfold iG;rw[Zi (by rw[h_];simp[fm,h2.cl])];show jc 0 (fm (aG t)).cls=_;have:(fm (aG t)).cls=((bh t (bD t)).map (bU (ai [] (bh t (bD t))))).map UInt8.ofNat:=by simp only[fm,m]
  rw[this,<-l];exact hc
 rw[ec];simp only[Bool.and_eq_true,decide_eq_true_eq,all_eq_true];refine⟨by simp only[fm];omega,by simp only[fm];omega,by simp only[fm,length_map];omega,by simp[fm,fY];omega,?_⟩;intro r hr;simp only[fm,mem_map] at hr;obtain⟨q,hq,rfl⟩:=hr;have:=h2.r q hq;simp only[rowOk,Bool.and_eq_true,beq_iff_eq,length_map,all_eq_true];refine⟨this.1,λz hz=>?_⟩;simp only[mem_map] at hz;obtain⟨y,hy,rfl⟩:=hz;have:=this.2 y hy;simp[fY,fm];omega
section
variable {α β:Type} [DecidableEq α] [DecidableEq β]
theorem tJ:∀ {E L:List β},E.Nodup->(∀ x∈E,x∈L)->E.length<=L.length
 |[],L,_,_=>by simp
 |a::E,L,hd,hs=>by
  have h1:=hs a χ;have h2:=nodup_cons.1 hd
  have:=tJ (L:=L.erase a) h2.2 (λx hx=>by
   have d:x≠a:=λe=>h2.1 (e▸hx)
   exact(mem_erase_of_ne d).2 (hs x (by simp[hx])))
  have h3:=length_erase_of_mem h1;have h4:=length_pos_of_mem h1;simp only[length_cons];omega
def FJ {xs:List α} (f:α->β) (h:(ai [] xs).length<=(ai [] (xs.map f)).length) {a b:α} (ha:a∈xs) (hb:b∈xs) (e:f a=f b):a=b:=by
 rcases Decidable.em (a=b) with q|q
 .exact q
 .exfalso
  have hD:=bR nodup_nil xs;have hE:(ai [] (xs.map f)).Nodup:=bR nodup_nil _;have d:a∈ai [] xs:=aH.2 (.inr ha);have l:b∈ai [] xs:=aH.2 (.inr hb)
  have:=tJ (L:=((ai [] xs).erase a).map f) hE (λy hy=>by
   rcases aH.1 hy with q2|q2
   .simp at q2
   .obtain⟨x,hx,rfl⟩:=mem_map.1 q2
    by_cases hxa:x=a
    .subst hxa;rw[e];exact mem_map.2 ⟨b,(mem_erase_of_ne (Ne.symm q)).2 l,rfl⟩
    .exact mem_map.2 ⟨x,(mem_erase_of_ne hxa).2 (aH.2 (.inr hx)),rfl⟩)
  rw[length_map,length_erase_of_mem d] at this;have h4:=length_pos_of_mem d;omega
def It {l:List α}{a b:α} (ha:a∈l) (hb:b∈l) (e:bU l a=bU l b):a=b:=by
 have h1:=eZ ha;have h2:=eZ hb;unfold bU at h1 h2 e;rw[<-getElem_idxOf h1,<-getElem_idxOf h2];simp only[e]
def vg {l:List α}{a:α} (ha:a∈l):l[bU l a]'(eZ ha)=a:=getElem_idxOf (eZ ha)
theorem FK {l:List α} (hd:l.Nodup)  (h:i<l.length):bU l l[i]=i:=by
 have h1:=eZ (Zg h);exact(getElem_inj hd).1 (vg (Zg h))
def Dr {m:List α}{x:α} (f:α->β) (hi:∀ a∈m,f a=f x->a=x):(aq m x).map f=aq (m.map f) (f x):=by
 unfold aq
 by_cases h:x∈m
 .rw[Zi h,Zi (mem_map.2 ⟨x,h,rfl⟩)]
 .rw[Zh h,Zh (λq=>by obtain⟨a,ha,e⟩:=mem_map.1 q;exact h (hi a ha e▸ha))]
  simp
theorem kF (f:α->β):∀ {xs m:List α},(∀ a∈m++xs,∀ b∈m++xs,f a=f b->a=b)->ai (m.map f) (xs.map f)=(ai m xs).map f
 |[],m,_=>rfl
 |x::xs,m,h=>by
  rw[map_cons,ji,ji,<-Dr f (λa ha e=>h a (by simp[ha]) x χ e)];refine kF f (λa ha b hb e=>h a ?_ b ?_ e)
  .rcases mem_append.1 ha with q|q
   .rcases f_.1 q with q|rfl
    .simp[q]
    .simp
   .simp[q]
  .rcases mem_append.1 hb with q|q
   .rcases f_.1 q with q|rfl
    .simp[q]
    .simp
   .simp[q]
end
def L_ (next:List (List Nat)) (bl:List UInt8):Prop:=∀ i j (hi:i<next.length) (hj:j<next.length),bl.getD i 0=bl.getD j 0->dX bl i next[i]=dX bl j next[j]
variable (bl next) in
theorem iz:(bN bl next).length=next.length:=by simp[bN]
def ij (h:i<next.length):(bN bl next)[i]'(by rw[iz];exact h)=dX bl i next[i]:=by simp[bN]
def zR (h:bl.length=next.length):(bN bl next).map (λl=>l.getD 0 0)=bl:=by
 refine ext_getElem (by rw[length_map,iz,h]) λi h1 h2=>?_
 have hi:i<next.length:=by simpa [iz] using h1
 rw[getElem_map,ij hi];simp[dX,getD_eq_getElem?_getD,Zj h2]
def jz (bl:List UInt8) (next:List (List Nat)):List UInt8:=(bN bl next).map λl=>UInt8.ofNat (bU (ai [] (bN bl next)) l)
variable (bl next) in
theorem qA:(jz bl next).length=next.length:=by simp[jz,iz]
def Ds (ha:a<256) (hb:b<256) (e:UInt8.ofNat a=UInt8.ofNat b):a=b:=by
 have:=congrArg UInt8.toNat e
 simpa [UInt8.toNat_ofNat',mod_eq_of_lt ha,mod_eq_of_lt hb] using this
def qB (hn:next.length<=200) {a b:List UInt8} (ha:a∈bN bl next) (hb:b∈bN bl next) (e:UInt8.ofNat (bU (ai [] (bN bl next)) a)=UInt8.ofNat (bU (ai [] (bN bl next)) b)):a=b:=by
 have hl:=c_ [] (bN bl next);rw[iz] at hl;simp at hl;have h1:bU (ai [] (bN bl next)) a<_:=eZ (aH.2 (.inr ha));have h2:bU (ai [] (bN bl next)) b<_:=eZ (aH.2 (.inr hb));have h3:=Ds ω ω e;exact It (aH.2 (.inr ha)) (aH.2 (.inr hb)) h3
def tK (h:i<next.length):(jz bl next).getD i 0=UInt8.ofNat (bU (ai [] (bN bl next)) (dX bl i next[i])):=by
 have h1:i<(jz bl next).length:=by rw[qA];exact h
 rw[getD_eq_getElem?_getD,Zj h1,Option.getD_some];simp only[jz,getElem_map];rw[ij h]
def tL (hn:next.length<=200)  (hi:i<next.length) (hj:j<next.length):(jz bl next).getD i 0=(jz bl next).getD j 0↔dX bl i next[i]=dX bl j next[j]:=by
 rw[tK hi,tK hj]
 constructor
 .exact qB hn (by rw[<-ij hi];exact Zg _) (by rw[<-ij hj];exact Zg _)
 .intro e;rw[e]
variable (next) in
theorem kG (f:Nat) (bl:List UInt8) (many:Nat):e_ next (f+1) bl many=if many<(ai [] (bN bl next)).length then e_ next f (jz bl next) (ai [] (bN bl next)).length else bl:=rfl
theorem oP (next:List (List Nat)) (hn:next.length<=200):∀(f:Nat) (bl:List UInt8) (many:Nat),bl.length=next.length->many<=(ai [] bl).length->200<f+many->L_ next (e_ next f bl many)
 |0,bl,many,hl,hm,hf=>by
  have:=c_ [] bl;simp at this;omega
 |f+1,bl,many,hl,hm,hf=>by
  rw[kG]
  split
  .rename_i o;refine oP next hn f _ _ (qA _ _) ?_ ω;have:=kF (λl=>UInt8.ofNat (bU (ai [] (bN bl next)) l)) (xs:=bN bl next) (m:=[]) (λa ha b hb e=>qB hn (by simpa using ha) (by simpa using hb) e);simp only[map_nil] at this;unfold jz;rw[this,length_map];exact zq
  .rename_i d;intro i j hi hj e;refine FJ (λl:List UInt8=>l.getD 0 0) (xs:=bN bl next) ?_ (by rw[<-ij hi];exact Zg _) (by rw[<-ij hj];exact Zg _) (by simpa [dX] using e);rw[zR hl];omega
structure My (next:List (List Nat)) (R:Nat->Nat->Prop):Prop where
 r:∀ i j,R i j->i<next.length/\j<next.length
 s:∀ i j (hi:i<next.length) (hj:j<next.length),R i j->next[i].length=next[j].length/\∀ c (h1:c<next[i].length) (h2:c<next[j].length),R (next[i][c]) (next[j][c])
def FL (h:My next R)  (hb:∀ i j,R i j->bl.getD i 0=bl.getD j 0)  (hi:i<next.length) (hj:j<next.length) (e:R i j):dX bl i next[i]=dX bl j next[j]:=by
 obtain⟨h1,h2⟩:=h.s i j hi hj e;unfold dX;rw[hb i j e]
 congr 1
 refine ext_getElem (by simp[h1]) λc q1 q2=>?_
 simp only[getElem_map];exact hb _ _ (h2 c (by simpa using q1) (by simpa using q2))
theorem qC {next:List (List Nat)} (hn:next.length<=200) {R:Nat->Nat->Prop} (h:My next R):∀(f:Nat) (bl:List UInt8) (many:Nat),(∀ i j,R i j->bl.getD i 0=bl.getD j 0)->∀ i j,R i j->(e_ next f bl many).getD i 0=(e_ next f bl many).getD j 0
 |0,bl,many,hb=>hb
 |f+1,bl,many,hb=>by
  rw[kG]
  split
  .exact qC hn h f _ _ (λi j e=>by
    obtain⟨hi,hj⟩:=h.r i j e
    exact(tL hn hi hj).2 (FL h hb hi hj e))
  .exact hb
theorem qD {next:List (List Nat)} (hn:next.length<=200) {i j:Nat} (hi:i<next.length) (hj:j<next.length):∀(f:Nat) (bl:List UInt8) (many:Nat),(e_ next f bl many).getD i 0=(e_ next f bl many).getD j 0->bl.getD i 0=bl.getD j 0
 |0,bl,many,e=>e
 |f+1,bl,many,e=>by
  rw[kG] at e
  split at e
  .have:=(tL hn hi hj).1 (qD hn hi hj f _ _ e);unfold dX at this;injection this
  .exact e
structure BD {α β:Type} [DecidableEq α] (step:α->β->α) (rs:List β) (met:List α) (tk:Nat) (rows:List (List Nat)):Prop where
 l:rows.length=tk
 t:tk<=met.length
 r:∀ i q,i<tk->met[i]?=some q->rows[i]?=some (rs.map λr=>bU met (step q r))/\∀ r∈rs,step q r∈met
def lx {α:Type}{m m':List α} (h:m <+: m')  (hi:i<m.length):m'[i]?=m[i]?:=by
 obtain⟨r,rfl⟩:=h;exact Zo hi
theorem nU {α β:Type} [DecidableEq α] {step:α->β->α}{rs:List β}{limit:Nat}:∀ {f:Nat}{met:List α}{tk:Nat}{rows:List (List Nat)}{x:List α×List (List Nat)},BD step rs met tk rows->bG step rs limit f met tk rows=some x->BD step rs x.1 x.1.length x.2/\met <+: x.1
 |0,met,tk,rows,x,_,e=>by simp[bG] at e
 |f+1,met,tk,rows,x,h,e=>by
  simp only[bG] at e
  split at e
  .rename_i hn;simp at e;subst e;have h1:=List.getElem?_eq_none_iff.1 hn;have h2:=h.t;have:tk=met.length:=ω;subst this;exact⟨h,prefix_refl _⟩
  .rename_i q hq
   split at e
   .simp at e
   .have hp:=fj met (rs.map (step q));have l:=hp.length_le;have d:=(List.getElem?_eq_some_iff.1 hq).1;have:=nU (tk:=tk+1) ⟨by simp[h.l],ω,λi p hi hip=>?_⟩ e
    .grind
    .by_cases hit:i<tk
     .have hl:=h.t;rw[lx hp ω] at hip;obtain⟨r1,r2⟩:=h.r i p hit hip;refine⟨?_,λr hr=>hp.subset (r2 r hr)⟩;rw[Zo (by rw[h.l];exact hit),r1]
      congr 1
      exact map_congr_left (λr hr=>(lv hp (r2 r hr)).symm)
     .have:i=tk:=ω;subst this;rw[lx hp d,hq] at hip;injection hip with hip;subst hip;refine⟨?_,λr hr=>aH.2 (.inr (mem_map.2 ⟨r,hr,rfl⟩))⟩;rw[getElem?_append_right (by rw[h.l];exact zq),h.l];simp[bU,Function.comp_def]
theorem qE {α β:Type} [DecidableEq α] {step:α->β->α}{rs:List β}{limit:Nat}:∀ {f:Nat}{met:List α}{tk:Nat}{rows:List (List Nat)}{x:List α×List (List Nat)},met.Nodup->(∀ j q,0<j->met[j]?=some q->∃ i p r,i<j/\met[i]?=some p/\r∈rs/\step p r=q)->tk<=met.length->bG step rs limit f met tk rows=some x->∀ j q,0<j->x.1[j]?=some q->∃ i p r,i<j/\x.1[i]?=some p/\r∈rs/\step p r=q
 |0,met,tk,rows,x,_,_,_,e=>by simp[bG] at e
 |f+1,met,tk,rows,x,hd,h,ht,e=>by
  simp only[bG] at e
  split at e
  .grind
  .rename_i q hq
   split at e
   .simp at e
   .have hp:=fj met (rs.map (step q));have w:=hp.length_le;have o:=(List.getElem?_eq_some_iff.1 hq).1;have m:=bR hd (rs.map (step q));refine qE m (λj y hj hy=>?_) ω e
    by_cases hlt:j<met.length
    .rw[lx hp hlt] at hy;obtain⟨i,p,r,h1,h2,h3,h4⟩:=h j y hj hy;exact⟨i,p,r,h1,by rw[lx hp ω];exact h2,h3,h4⟩
    .have d:=(List.getElem?_eq_some_iff.1 hy).1;have hm:y∈ai met (rs.map (step q)):=mem_of_getElem? hy;have u:y∈rs.map (step q):=by
      rcases aH.1 hm with q1|q1
      .exfalso
       obtain⟨i,hi,e1⟩:=mem_iff_getElem.1 q1;have e2:(ai met (rs.map (step q)))[i]?=some y:=by rw[lx hp hi,Zj hi,e1]
       have l:i<(ai met (rs.map (step q))).length:=ω;rw[Zj l] at e2;rw[Zj d] at hy;have:=(getElem_inj (h₀:=l) (h₁:=d) m).1 ((Option.some.inj e2).trans (Option.some.inj hy).symm);omega
      .exact q1
     obtain⟨r,hr,rfl⟩:=mem_map.1 u;exact⟨tk,q,r,ω,by rw[lx hp o];exact hq,hr,rfl⟩
def nx (t:Tn) (i c:Nat):Nat:=(t.next.getD i []).getD c 0
def ac (t:Tn) (i:Nat):Bool:=t.acc.getD i false
structure ej (n k:Nat) (t:Tn):Prop where
 ok:iH n k t
 rc:∀ j,0<j->j<n->∃ i c,i<j/\c<k/\nx t i c=j
 su:∀ c,c<k->c∈t.cls
theorem getD_at {α:Type}{l:List α} (h:i<l.length) (d:α):l.getD i d=l[i]:=by simp_all
def iH.nx_lt {n k:Nat}{t:Tn} (h:iH n k t)  (hi:i<n) (hc:c<k):nx t i c<n:=by
 have h1:i<t.next.length:=by rw[h.nl];exact hi
 have h2:=h.r _ (Zg h1);unfold nx;rw[getD_at h1,getD_at (by rw[h2.1];exact hc)];exact h2.2 _ (Zg _)
def vh {p:Sx.sT}{t:Tn} (hl:1<=limit) (h:bS p limit=some t):∃ n k,n<=limit/\k<=256/\ej n k t:=by
 unfold bS at h
 split at h
 .simp at h
 .split at h
  .simp at h
  .rename_i x hx;simp at h;subst h;obtain⟨h1,h2,h3,h4⟩:=mP (α:=fZ) (show[_].length<=limit from hl) (show nQ _ [_] 0 [] from⟨rfl,Zk _,λr hr=>absurd hr χ⟩) hx;have h5:=h4.length_le;simp at h5;obtain⟨hr,-⟩:=nU (show BD _ _ [_] 0 [] from⟨rfl,Zk _,λi q hi=>absurd hi ω⟩) hx;have hc:=qE χ (λj q hj e=>absurd (List.getElem?_eq_some_iff.1 e).1 σ) χ hx;have m:=mt χ hx;refine⟨x.1.length,(ai [] (eS (bF p.choices fF ⟨[],[]⟩).2.bs)).length,h1,?_,⟨⟨ω,by simp[eS],λc hc=>?_,χ,h2,h3.r⟩,λj h0 hj=>?_,λc hc=>?_⟩⟩
   .grind [c_,eS,bF,fF]
   .grind [fA]
   .obtain⟨i,q,r,k1,k2,k3,k4⟩:=hc j _ h0 (Zj hj);have hi:=(List.getElem?_eq_some_iff.1 k2).1;obtain⟨r1,r2⟩:=hr.r i q hi k2;obtain⟨c,d,l⟩:=mem_iff_getElem.1 k3;refine⟨i,c,k1,d,?_⟩;unfold nx;simp only[getD_eq_getElem?_getD,r1,Option.getD_some];rw[getElem?_map,Zj d];simp only[Option.map_some,Option.getD_some,l,k4];exact FK m hj
   .refine mem_map.2 ⟨(ai [] (eS (bF p.choices fF ⟨[],[]⟩).2.bs))[c],?_,?_⟩
    .rcases aH.1 (Zg hc) with q|q
     .simp at q
     .exact q
    .grind [FK,bR]
def vj {n k:Nat}{t:Tn} (h:iH n k t):(bD t).length=n:=(jy _ _ _ _ (by simp[gd,h.al,h.nl])).trans h.nl
def pB (acc:List Bool)  (h:i<acc.length):(gd acc).getD i 0=if acc.getD i false then 1 else 0:=by grind [getD_at,gd]
def iO {n k:Nat}{t:Tn} (h:iH n k t) (hn:n<=200)  (hi:i<n) (hj:j<n) (e:(bD t).getD i 0=(bD t).getD j 0):ac t i=ac t j/\∀ c,c<k->(bD t).getD (nx t i c) 0=(bD t).getD (nx t j c) 0:=by
 have m:i<t.next.length:=by rw[h.nl];exact hi
 have d:j<t.next.length:=by rw[h.nl];exact hj
 constructor
 .have:=qD (by rw[h.nl];exact hn) m d 202 (gd t.acc) 0 e;rw[pB _ (by rw[h.al];exact hi),pB _ (by rw[h.al];exact hj)] at this;unfold ac;generalize t.acc.getD i false=a at this ⊢;generalize t.acc.getD j false=b at this ⊢
  cases a<;>cases b<;>simp at this ⊢
 .intro c hc;have hs:=oP t.next (by rw[h.nl];exact hn) 202 (gd t.acc) 0 (by simp[gd,h.al,h.nl]) (Zk _) ω i j m d e;unfold dX at hs;injection hs with _ hs;have r1:=(h.r _ (Zg m)).1;have r2:=(h.r _ (Zg d)).1;have h3:=congrArg (λl=>l[c]?) hs;simp only[getElem?_map] at h3;rw[Zj (by rw[r1];exact hc),Zj (by rw[r2];exact hc)] at h3;simp only[Option.map_some,Option.some.injEq] at h3;unfold nx;rw[getD_at m,getD_at d,getD_at (l:=t.next[i]) (by rw[r1];exact hc),getD_at (l:=t.next[j]) (by rw[r2];exact hc)];exact h3
def Ma (n k:Nat) (t:Tn) (R:Nat->Nat->Prop):Prop:=∀ i j,R i j->i<n/\j<n/\ac t i=ac t j/\∀ c,c<k->R (nx t i c) (nx t j c)
def FM {n k:Nat}{t:Tn} (h:iH n k t) (hn:n<=200)  (hR:Ma n k t R)  (e:R i j):(bD t).getD i 0=(bD t).getD j 0:=by
 refine qC (by rw[h.nl];exact hn) ⟨λi j e=>?_,λi j hi hj e=>?_⟩ 202 (gd t.acc) 0 (λi j e=>?_) i j e
 .rw[h.nl];exact⟨(hR i j e).1,(hR i j e).2.1⟩
 .have r1:=(h.r _ (Zg hi)).1;have r2:=(h.r _ (Zg hj)).1;refine⟨r1.trans r2.symm,λc h1 h2=>?_⟩;have:=(hR i j e).2.2.2 c ω;unfold nx at this
  rwa [getD_at hi,getD_at hj,getD_at h1,getD_at h2] at this
 .obtain⟨h1,h2,h3,-⟩:=hR i j e;rw[pB _ (by rw[h.al];exact h1),pB _ (by rw[h.al];exact h2)];unfold ac at h3;rw[h3]
def BF {n k:Nat}{t:Tn} (h:iH n k t) (bl:List UInt8) {c d:Nat}:iJ bl t.next c=iJ bl t.next d↔∀ q,q<n->bl.getD (nx t q c) 0=bl.getD (nx t q d) 0:=by
 constructor
 .intro e q hq;have m:q<t.next.length:=by rw[h.nl];exact hq
  have h3:=congrArg (λl=>l[q]?) e;simp only[iJ,getElem?_map,Zj m,Option.map_some,Option.some.injEq] at h3;unfold nx;rw[getD_at m];exact h3
 .intro e;unfold iJ;refine map_congr_left (λrow hr=>?_);obtain⟨q,hq,rfl⟩:=mem_iff_getElem.1 hr;have:=e q (by rw[<-h.nl];exact hq);unfold nx at this
  rwa [getD_at hq] at this
open Sx (aO dw)
def kH (t:Tn) (s:Nat) (u:List UInt8):Nat:=u.foldl (λq b=>nx t q (t.cls.getD b.toNat 0)) s
theorem qF (t:Tn) (s:Nat) (u:List UInt8) (b:UInt8):kH t s (u++[b])=nx t (kH t s u) (t.cls.getD b.toNat 0):=by simp[kH]
theorem zS (t:Tn) (s:Nat) (u v:List UInt8):kH t s (u++v)=kH t (kH t s u) v:=by simp[kH]
def iH.ck' {n k:Nat}{t:Tn} (h:iH n k t) (b:UInt8):t.cls.getD b.toNat 0<k:=by
 have hb:b.toNat<t.cls.length:=by rw[h.cl];exact b.toNat_lt
 rw[getD_at hb];exact h.ck _ (Zg hb)
theorem vp {n k:Nat}{t:Tn} (h:iH n k t):∀(u:List UInt8) {s:Nat},s<n->kH t s u<n
 |[],s,hs=>hs
 |b::u,s,hs=>by
  show kH t (nx t s (t.cls.getD b.toNat 0)) u<n;exact vp h u (h.nx_lt hs (h.ck' b))
def xi {α:Type}{P:List α->Prop} (h0:P []) (h1:∀ u b,P u->P (u++[b])) (u:List α):P u:=by
 have:∀ v:List α,P v.reverse:=λv=>by
  induction v with
  |nil=>exact h0
  |cons a v ih=>rw[reverse_cons];exact h1 _ _ ih
 have:=this u.reverse
 rwa [reverse_reverse] at this
def BG {n k:Nat}{t:Tn} (h:iH n k t) (hn:n<=200) {s i j:Nat} (hs:s<n) (hi:i<256) (hj:j<256) (e:iJ (bD t) t.next (t.cls.getD i 0)=iJ (bD t) t.next (t.cls.getD j 0)):bH t (bD t) ((bD t).getD s 0) (t.cls.getD i 0)=(bD t).getD (nx t s (t.cls.getD j 0)) 0:=by
 have hl:=vj h;have d:s<(bD t).length:=ω;have hm:(bD t).getD s 0∈bD t:=by rw[getD_at d];exact Zg d
 have h1:=Zq hm;have h2:(bD t).getD ((bD t).idxOf ((bD t).getD s 0)) 0=(bD t).getD s 0:=by
  conv=>lhs;rw[getD_at h1,getElem_idxOf h1]
 have hc:t.cls.getD i 0<k:=by
  have:i<t.cls.length:=by rw[h.cl];exact hi
  rw[getD_at this];exact h.ck _ (Zg this)
 have h3:=(iO h hn ω hs h2).2 _ hc;show(bD t).getD (nx t ((bD t).idxOf ((bD t).getD s 0)) (t.cls.getD i 0)) 0=_;rw[h3];exact(BF h (bD t)).1 e s hs
def FN {n k:Nat}{t:Tn} (h:iH n k t) (hn:n<=200) {s:Nat} (hs:s<n):t.acc.getD ((bD t).idxOf ((bD t).getD s 0)) false=ac t s:=by
 have hl:=vj h;have d:s<(bD t).length:=ω;have hm:(bD t).getD s 0∈bD t:=by rw[getD_at d];exact Zg d
 have h1:=Zq hm;have h2:(bD t).getD ((bD t).idxOf ((bD t).getD s 0)) 0=(bD t).getD s 0:=by
  conv=>lhs;rw[getD_at h1,getElem_idxOf h1]
 exact(iO h hn ω hs h2).1
def jA (t:Tn):∃ x,iZ t (bD t)=some x/\aG t=⟨t.front,t.back,(bh t (bD t)).map (bU (ai [] (bh t (bD t)))),x.1.map λb=>t.acc.getD ((bD t).idxOf b) false,x.2⟩:=by
 obtain⟨x,hx⟩:=kE t (bD t);exact⟨x,hx,by unfold aG;rw[hx]⟩
def Iu {n k:Nat}{t:Tn} (h:iH n k t)  (hi:i<256):(bh t (bD t))[i]?=some (iJ (bD t) t.next (t.cls.getD i 0)):=by
 have:i<t.cls.length:=by rw[h.cl];exact hi
 unfold bh;rw[getElem?_map,Zj this,getD_at this];rfl
section
variable {α β γ δ ε:Type} [DecidableEq α] [DecidableEq β] [DecidableEq γ]
theorem ly (f:α->β):∀ {l:List α}{x:α},x∈l->(∀ a∈l,f a=f x->a=x)->bU (l.map f) (f x)=bU l x
 |[],x,hx,_=>by simp at hx
 |a::l,x,hx,hi=>by
  unfold bU;rw[map_cons,idxOf_cons,idxOf_cons]
  by_cases h:a=x
  .subst h;simp
  .have h':¬ f a=f x:=λe=>h (hi a χ e)
   have d:x∈l:=by
    rcases mem_cons.1 hx with q|q
    .exact(h q.symm).elim
    .exact q
   rw[show(f a==f x)=false by simp[h'],show(a==x)=false by simp[h]];simp only[cond_false];have:=ly f d (λb hb e=>hi b (by simp[hb]) e);unfold bU at this;rw[this]
def FO {xs:List α}{ys:List β} (hl:xs.length=ys.length) (h:∀ i j (hi:i<xs.length) (hj:j<xs.length),xs[i]=xs[j]↔ys[i]'(hl▸hi)=ys[j]'(hl▸hj)):xs.map (bU (ai [] xs))=ys.map (bU (ai [] ys))/\(ai [] xs).map (bU xs)=(ai [] ys).map (bU ys):=by
 obtain⟨zs,hz⟩:=zx (xs.zip ys);have h1:zs.map Prod.fst=xs:=by rw[hz];exact map_fst_zip ω
 have h2:zs.map Prod.snd=ys:=by rw[hz];exact map_snd_zip ω
 have i1:∀ a∈zs,∀ b∈zs,a.1=b.1->a=b:=λa ha b hb e=>by
  obtain⟨i,hi,rfl⟩:=mem_iff_getElem.1 ha;obtain⟨j,hj,rfl⟩:=mem_iff_getElem.1 hb;subst hz;simp only[getElem_zip,length_zip] at e hi hj ⊢;rw[Prod.mk.injEq];exact⟨e,(h i j ω ω).1 e⟩
 have i2:∀ a∈zs,∀ b∈zs,a.2=b.2->a=b:=λa ha b hb e=>by
  obtain⟨i,hi,rfl⟩:=mem_iff_getElem.1 ha;obtain⟨j,hj,rfl⟩:=mem_iff_getElem.1 hb;subst hz;simp only[getElem_zip,length_zip] at e hi hj ⊢;rw[Prod.mk.injEq];exact⟨(h i j ω ω).2 e,e⟩
 have m1:ai [] xs=(ai [] zs).map Prod.fst:=by rw[<-h1];exact kF (m:=[]) Prod.fst (by simpa using i1)
 have m2:ai [] ys=(ai [] zs).map Prod.snd:=by rw[<-h2];exact kF (m:=[]) Prod.snd (by simpa using i2)
 have mm:∀ z,z∈ai [] zs->z∈zs:=λz hz=>by simpa using aH.1 hz
 have d:∀ z,z∈zs->z∈ai [] zs:=λz hz=>aH.2 (.inr hz)
 constructor
 .rw[m1,m2];have e1:xs.map (bU ((ai [] zs).map Prod.fst))=zs.map (bU (ai [] zs)):=by
   rw[<-h1,map_map];exact map_congr_left (λz hz=>ly Prod.fst (d z hz) (λa ha=>i1 a (mm a ha) z hz))
  have e2:ys.map (bU ((ai [] zs).map Prod.snd))=zs.map (bU (ai [] zs)):=by
   rw[<-h2,map_map];exact map_congr_left (λz hz=>ly Prod.snd (d z hz) (λa ha=>i2 a (mm a ha) z hz))
  rw[e1,e2]
 .rw[m1,m2,map_map,map_map];refine map_congr_left (λz hz=>?_);have e1:=ly Prod.fst (mm z hz) (λa ha=>i1 a ha z (mm z hz));have e2:=ly Prod.snd (mm z hz) (λa ha=>i2 a ha z (mm z hz));rw[h1] at e1;rw[h2] at e2;simp only[Function.comp];rw[e1,e2]
theorem kJ {step:γ->δ->γ}{step':α->ε->α}{f:γ->α}{g:δ->ε}{P:γ->Prop}{rs:List δ}{limit:Nat} (hP:∀ q r,P q->r∈rs->P (step q r)) (hf:∀ q r,P q->r∈rs->f (step q r)=step' (f q) (g r)) (hi:∀ a b,P a->P b->f a=f b->a=b) :
  ∀(fu:Nat) (met:List γ) (tk:Nat) (rows:List (List Nat)),(∀ q∈met,P q)->bG step' (rs.map g) limit fu (met.map f) tk rows=(bG step rs limit fu met tk rows).map λx=>(x.1.map f,x.2)
 |0,met,tk,rows,_=>by simp[bG]
 |fu+1,met,tk,rows,hm=>by
  simp only[bG,getElem?_map]
  cases hq:met[tk]? with
  |none=>simp
  |some q=>
   have m:=hm q (mem_of_getElem? hq);have e1:(rs.map g).map (step' (f q))=(rs.map (step q)).map f:=by
    rw[map_map,map_map];exact map_congr_left (λr hr=>(hf q r m hr).symm)
   have d:∀ y∈rs.map (step q),P y:=λy hy=>by
    obtain⟨r,hr,rfl⟩:=mem_map.1 hy;exact hP q r m hr
   have l:∀ y∈ai met (rs.map (step q)),P y:=λy hy=>(aH.1 hy).elim (hm y) (d y)
   have e2:=kF f (λa ha b hb e=>hi a b ((mem_append.1 ha).elim (hm a) (d a)) ((mem_append.1 hb).elim (hm b) (d b)) e);have e3:((rs.map (step q)).map f).map ((ai met (rs.map (step q))).map f).idxOf=(rs.map (step q)).map (ai met (rs.map (step q))).idxOf:=by
    rw[map_map];refine map_congr_left (λy hy=>?_);exact ly f (aH.2 (.inr hy)) (λa ha e=>hi a y (l a ha) (d y hy) e)
   simp only[Option.map_some];rw[e1,e2,e3,length_map]
   split
   .rfl
   .exact kJ hP hf hi fu _ (tk+1) _ l
end
def res (t:Tn) (s:Nat) (v:List UInt8):Bool:=ac t (kH t s v)
theorem gL (t:Tn) (s:Nat) (b:UInt8) (v:List UInt8):res t s (b::v)=res t (nx t s (t.cls.getD b.toNat 0)) v:=rfl
def vq {n k:Nat}{t:Tn} (h:ej n k t) (hn:n<=200)  (hi:i<n) (hj:j<n):(bD t).getD i 0=(bD t).getD j 0↔res t i=res t j:=by
 constructor
 .intro e
  funext v
  induction v generalizing i j with
  |nil=>exact(iO h.ok hn hi hj e).1
  |cons b v ih=>
   rw[gL,gL];have hc:=h.ok.ck' b;exact ih (h.ok.nx_lt hi hc) (h.ok.nx_lt hj hc) ((iO h.ok hn hi hj e).2 _ hc)
 .intro e;refine FM h.ok hn (R:=λi j=>i<n/\j<n/\res t i=res t j) ?_ ⟨hi,hj,e⟩;rintro i j ⟨hi,hj,e⟩;refine⟨hi,hj,congrFun e [],λc hc=>⟨h.ok.nx_lt hi hc,h.ok.nx_lt hj hc,?_⟩⟩;obtain⟨m,hm,d⟩:=mem_iff_getElem.1 (h.su c hc);have l:m<256:=by rw[<-h.ok.cl];exact hm
  have hb:(UInt8.ofNat m).toNat=m:=σ;have hg:t.cls.getD (UInt8.ofNat m).toNat 0=c:=by rw[hb,getD_at hm,d]
  funext v
  have:=congrFun e (UInt8.ofNat m::v);rw[gL,gL,hg] at this;exact this
def Iv {n k:Nat}{t:Tn} (h:ej n k t):∀ j,j<n->∃ u,kH t 0 u=j:=by
 intro j
 induction j using Nat.strongRecOn with
 |_ j ih=>
  intro hj
  by_cases h0:j=0
  .subst h0;exact⟨[],rfl⟩
  .obtain⟨i,c,h1,h2,h3⟩:=h.rc j ω hj;obtain⟨u,hu⟩:=ih i h1 ω;obtain⟨m,hm,d⟩:=mem_iff_getElem.1 (h.su c h2);have l:m<256:=by rw[<-h.ok.cl];exact hm
   have hb:(UInt8.ofNat m).toNat=m:=σ;have hg:t.cls.getD (UInt8.ofNat m).toNat 0=c:=by rw[hb,getD_at hm,d]
   exact⟨u++[UInt8.ofNat m],by rw[qF,hu,hg,h3]⟩
theorem fq (t:Tn) (u v:List UInt8):res t (kH t 0 u) v=ac t (kH t 0 (u++v)):=by unfold res;rw[zS]
def Iw {n k:Nat}{t:Tn} (h:ej n k t) (hn:n<=200) (b d:UInt8):iJ (bD t) t.next (t.cls.getD b.toNat 0)=iJ (bD t) t.next (t.cls.getD d.toNat 0)↔∀ u v,ac t (kH t 0 (u++b::v))=ac t (kH t 0 (u++d::v)):=by
 rw[BF h.ok]
 constructor
 .intro e u v;have hu:=vp h.ok u (show 0<n by have:=h.ok.n1;omega);have h1:=(vq h hn (h.ok.nx_lt hu (h.ok.ck' b)) (h.ok.nx_lt hu (h.ok.ck' d))).1 (e _ hu);have h2:=congrFun h1 v;rw[<-fq,<-fq,gL,gL];exact h2
 .intro e q hq;obtain⟨u,rfl⟩:=Iv h q hq;refine(vq h hn (h.ok.nx_lt hq (h.ok.ck' b)) (h.ok.nx_lt hq (h.ok.ck' d))).2 (funext λv=>?_);have:=e u v;rw[<-fq,<-fq,gL,gL] at this;exact this
def BH {n k:Nat}{t:Tn} (h:ej n k t) (hn:n<=200)  (hi:i<(bh t (bD t)).length) (hj:j<(bh t (bD t)).length):(bh t (bD t))[i]=(bh t (bD t))[j]↔∀ u v,ac t (kH t 0 (u++UInt8.ofNat i::v))=ac t (kH t 0 (u++UInt8.ofNat j::v)):=by
 have hl:(bh t (bD t)).length=256:=by simp[bh,h.ok.cl]
 have e:∀ i,(hi:i<(bh t (bD t)).length)->(bh t (bD t))[i]=iJ (bD t) t.next (t.cls.getD (UInt8.ofNat i).toNat 0):=λi hi=>by
  have h1:=Iu h.ok (show i<256 by omega);rw[Zj hi] at h1;injection h1 with h1;rw[h1,show(UInt8.ofNat i).toNat=i by simp;omega]
 rw[e i hi,e j hj];exact Iw h hn _ _
def xj {n k n' k':Nat}{t t':Tn} (h:ej n k t) (h':ej n' k' t') (hn:n<=200) (hn':n'<=200) (hf:t.front=t'.front) (hb:t.back=t'.back) (e:∀ u,ac t (kH t 0 u)=ac t' (kH t' 0 u)):aG t=aG t':=by
 obtain⟨x,hx,hL⟩:=jA t;obtain⟨x',o,H⟩:=jA t';have hl:(bh t (bD t)).length=256:=by simp[bh,h.ok.cl]
 have F:(bh t' (bD t')).length=256:=by simp[bh,h'.ok.cl]
 obtain⟨s1,s2⟩:=FO (hl.trans F.symm) (λi j hi hj=>by
  rw[BH h hn hi hj,BH h' hn' ω ω]
  simp only[e])
 have J:=h.ok.n1;have I:=h'.ok.n1;obtain⟨RB,w⟩:=zx ((ai [] (bh t (bD t))).map (bU (bh t (bD t))));have ho:fD t.cls (bh t (bD t))=RB.map λb=>t.cls.getD b 0:=by
  rw[w,map_map];rfl
 have G:fD t'.cls (bh t' (bD t'))=RB.map λb=>t'.cls.getD b 0:=by
  rw[w,s2,map_map];rfl
 have E:∀ b∈RB,b<256:=λb hb=>by
  rw[w] at hb;obtain⟨c,hc,rfl⟩:=mem_map.1 hb;rw[<-hl];exact eZ (by simpa using aH.1 hc)
 let P:UInt8×UInt8->Prop:=λq=>∃ u,q.1=(bD t).getD (kH t 0 u) 0/\q.2=(bD t').getD (kH t' 0 u) 0
 let step:UInt8×UInt8->Nat->UInt8×UInt8:=λq b=>(bH t (bD t) q.1 (t.cls.getD b 0),bH t' (bD t') q.2 (t'.cls.getD b 0))
 have l:∀ u,kH t 0 u<n:=λu=>vp h.ok u ω
 have d:∀ u,kH t' 0 u<n':=λu=>vp h'.ok u ω
 have hP:∀ q r,P q->r∈RB->P (step q r):=by
  rintro⟨a,b⟩ r ⟨u,e1,e2⟩ hr;have m:=E r hr;have C:(UInt8.ofNat r).toNat=r:=σ
  simp only at e1 e2
  subst e1;subst e2;refine⟨u++[UInt8.ofNat r],?_,?_⟩
  .show bH t (bD t) _ _=_;rw[BG h.ok hn (l u) m m rfl,qF,C]
  .show bH t' (bD t') _ _=_;rw[BG h'.ok hn' (d u) m m rfl,qF,C]
 have key:∀ u v,(bD t).getD (kH t 0 u) 0=(bD t).getD (kH t 0 v) 0↔(bD t').getD (kH t' 0 u) 0=(bD t').getD (kH t' 0 v) 0:=λu v=>by
  rw[vq h hn (l u) (l v),vq h' hn' (d u) (d v)]
  constructor
  .intro q
   funext z
   have:=congrFun q z;rw[fq,fq,e,e] at this;rw[fq,fq];exact this
  .intro q
   funext z
   have:=congrFun q z;rw[fq,fq,<-e,<-e] at this;rw[fq,fq];exact this
 have i1:∀ a b,P a->P b->a.1=b.1->a=b:=by
  rintro⟨a1,a2⟩ ⟨b1,b2⟩ ⟨u,q1,q2⟩ ⟨v,q3,q4⟩ q5
  simp only at *
  rw[Prod.mk.injEq];refine⟨q5,?_⟩;rw[q2,q4];exact(key u v).1 (by rw[<-q1,<-q3];exact q5)
 have i2:∀ a b,P a->P b->a.2=b.2->a=b:=by
  rintro⟨a1,a2⟩ ⟨b1,b2⟩ ⟨u,q1,q2⟩ ⟨v,q3,q4⟩ q5
  simp only at *
  rw[Prod.mk.injEq];refine⟨?_,q5⟩;rw[q1,q3];exact(key u v).2 (by rw[<-q2,<-q4];exact q5)
 have y:∀ q∈[((bD t).getD 0 0,(bD t').getD 0 0)],P q:=λq hq=>by
  simp only[mem_singleton] at hq;subst hq;exact⟨[],rfl,rfl⟩
 have g1:=kJ (step:=step) (step':=bH t (bD t)) (f:=Prod.fst) (g:=λb=>t.cls.getD b 0) (P:=P) (rs:=RB) (limit:=256) hP (λ_ _ _ _=>rfl) i1 258 [((bD t).getD 0 0,(bD t').getD 0 0)] 0 [] y;have g2:=kJ (step:=step) (step':=bH t' (bD t')) (f:=Prod.snd) (g:=λb=>t'.cls.getD b 0) (P:=P) (rs:=RB) (limit:=256) hP (λ_ _ _ _=>rfl) i2 258 [((bD t).getD 0 0,(bD t').getD 0 0)] 0 [] y;unfold iZ at hx o;rw[ho] at hx;rw[G] at o;rw[show map Prod.fst [((bD t).getD 0 0,(bD t').getD 0 0)]=[(bD t).getD 0 0] from rfl,hx] at g1;rw[show map Prod.snd [((bD t).getD 0 0,(bD t').getD 0 0)]=[(bD t').getD 0 0] from rfl,o] at g2
 cases hz:bG step RB 256 258 [((bD t).getD 0 0,(bD t').getD 0 0)] 0 [] with
 |none=>rw[hz] at g1;simp at g1
 |some z=>
  rw[hz] at g1 g2;simp only[Option.map_some,Option.some.injEq] at g1 g2;have D:=qy P hP y hz;rw[hL,H,g1,g2,s1,hf,hb]
  congr 1
  simp only[map_map];refine map_congr_left (λq hq=>?_);obtain⟨u,q1,q2⟩:=D q hq;simp only[Function.comp];rw[q1,q2,FN h.ok hn (l u),FN h'.ok hn' (d u)];exact e u
open Sx (aO dw)
section
variable {α β:Type} [DecidableEq α] [DecidableEq β]
def Dt (m:List β) (g:α->β) (xs:List α):ai m (xs.map g)=ai m ((ai [] xs).map g):=by
 induction xs using xi with
 |h0=>rfl
 |h1 xs x ih=>
  rw[map_append,cO,ih,cO];show ai (ai m ((ai [] xs).map g)) [g x]=ai m ((aq (ai [] xs) x).map g);rw[show ai (ai m ((ai [] xs).map g)) [g x]=aq (ai m ((ai [] xs).map g)) (g x) from rfl]
  by_cases hx:x∈ai [] xs
  .grind [ai,aH,aq]
  .grind [aq,ai,cO]
def K0 (rs:List β) (r:List Nat):List Nat:=rs.map λb=>r.getD ((ai [] rs).idxOf b) 0
theorem tM {step:α->β->α}{rs:List β}{limit:Nat}:∀(fu:Nat) (met:List α) (tk:Nat) (rows:List (List Nat)),bG step rs limit fu met tk (rows.map (K0 rs))=(bG step (ai [] rs) limit fu met tk rows).map λx=>(x.1,x.2.map (K0 rs))
 |0,met,tk,rows=>by simp[bG]
 |fu+1,met,tk,rows=>by
  simp only[bG]
  cases hq:met[tk]? with
  |none=>simp
  |some q=>
   simp only
   rw[Dt met (step q) rs]
   split
   .rfl
   .rw[<-tM fu]
    congr 1
    rw[map_append,map_cons,map_nil]
    congr 2
    unfold K0;rw[map_map];refine map_congr_left (λb hb=>?_);have d:b∈ai [] rs:=aH.2 (.inr hb);have hi:=Zq d;simp only[Function.comp,getD_eq_getElem?_getD,getElem?_map,Zj hi,Option.map_some,Option.getD_some,getElem_idxOf hi]
end
def si (n:Nat) (P:Nat->Bool) (x:Bool):List UInt8:=((List.range n).map λi=>if P i then 49 else 48)++[if x then 49 else 48]
theorem jB (n:Nat) (P:Nat->Bool) (x:Bool):(si n P x).length=n+1:=by simp[si]
def zU (n:Nat) (P:Nat->Bool) (x:Bool)  (h:i<n):(si n P x).getD i 0=if P i then 49 else 48:=by grind [si]
theorem vt (n:Nat) (P:Nat->Bool) (x:Bool):(si n P x).getD n 0=if x then 49 else 48:=by grind [si]
def jj {n:Nat}{P Q:Nat->Bool}{x y:Bool} (h:∀ i,i<n->P i=Q i) (e:x=y):si n P x=si n Q y:=by
 unfold si;rw[e]
 congr 1
 exact map_congr_left (λi hi=>by rw[h i (mem_range.1 hi)])
structure Rs where
 sets:List (Nat->Bool)
 fol:List (List Nat)
 em:Bool
 first:List Nat
 last:List Nat
 front:Bool
def Rs.on (s:Rs) (q:List UInt8) (c:Nat):List Nat:=(List.range s.sets.length).filter λi=>q.getD i 0==49&&s.sets.getD i (λ_=>false) c
def gg (s:Rs) (q:List UInt8) (c:Nat):List UInt8:=
 si s.sets.length (λj=>(s.on q c).any (λi=>(s.fol.getD i []).contains j)||(!s.front&&s.first.contains j)) ((s.on q c).any (λi=>s.last.contains i)||(!s.front&&s.em))
def nV (s:Rs):List UInt8:=si s.sets.length (λj=>s.first.contains j) s.em
structure FP (s:Rs) (n:Nat) (A:Pz):Prop where
 l:s.sets.length=n
 fl:s.fol.length=n
 b:∀ i c,i<n->(s.sets.getD i (λ_=>false) c=true↔A.byt i c)
 fo:∀ i j,i<n->(j∈s.fol.getD i []↔A.fol i j)
 f:∀ i,i∈s.first↔A.first i
 la:∀ i,i∈s.last↔A.last i
 em:s.em=true↔A.em
section
variable {e:Ex}{p:Pc}{A:Pz}{R:Nat->Nat->Prop}{n:Nat}{s:Rs}
noncomputable def JH (R:Nat->Nat->Prop) (W:W4) (j:Nat):Bool:=@decide (∃ i,R i j/\eQ W i) (Classical.propDecidable _)
def Ix {W:W4}:JH R W j=true↔∃ i,R i j/\eQ W i:=by grind [JH]
noncomputable def xn (n:Nat) (R:Nat->Nat->Prop) (q:fZ):List UInt8:=si n (JH R q.w) q.ends
def qG {T U:Nat->Prop} (hR:Bj T U R) {W:W4} (r:R i j):JH R W j=true↔eQ W i:=
 Ix.trans ⟨λ⟨i',r',m⟩=>by rw[<-hR.inj r' r];exact m,λm=>⟨i,r,m⟩⟩
variable (hn:n<=64) (he:dE n e) (hp:eE n p) (hR:PR e (Rg 0 n) p A R) (hA:∀ i,A.S i↔Rg 0 n i) (hs:FP s n A)
include hR hA in
def Iy {a b:fZ} (ha:Sp n a.w) (hb:Sp n b.w) (h:xn n R a=xn n R b):a=b:=by
 have h1:a.ends=b.ends:=by
  have:=congrArg (λl=>l.getD n 0) h;simp only[xn,vt] at this
  cases x:a.ends<;>cases y:b.ends<;>simp[x,y] at this ⊢
 have h2:a.w=b.w:=by
  refine ha.ext hb (λi=>?_)
  by_cases hi:i<n
  .obtain⟨j,r⟩:=hR.bj.t (show Rg 0 n i from⟨Zk _,hi⟩);have hj:j<n:=((hA j).1 (hR.bj.d r).2).2;have:=congrArg (λl=>l.getD j 0) h;simp only[xn,zU _ _ _ hj] at this;rw[<-qG hR.bj r (W:=a.w),<-qG hR.bj r (W:=b.w)]
   cases x:JH R a.w j<;>cases y:JH R b.w j<;>simp[x,y] at this ⊢
  .exact⟨λq=>(hi (ha.mem_lt q)).elim,λq=>(hi (hb.mem_lt q)).elim⟩
 obtain⟨a0,a1,a2,a3,a4⟩:=a;obtain⟨b0,b1,b2,b3,b4⟩:=b;simp only[fZ.w,W4.mk.injEq] at h1 h2;obtain⟨rfl,rfl,rfl,rfl⟩:=h2;have h1:a4=b4:=h1;subst h1;rfl
include hn he hp in
def Iz (front:Bool) {q:fZ} (hq:Sp n q.w) (rd:W4):Sp n (bq ⟨e.fs,p,front⟩ q rd).w:=by
 have d:=Sp.orS he.s (q.w.and rd).all (Sp.none n);have _:=hn
 cases front with
 |true=>exact d
 |false=>exact d.or hp.f
include hn he hR hA hs in
def FQ {q:fZ} (hq:Sp n q.w)  (hrd:∀ j,eQ rd j↔byt e j c=true):xn n R (bq ⟨e.fs,p,s.front⟩ q rd)=gg s (xn n R q) c:=by
 have d:Sp n (q.w.and rd):=hq.and rd;have _:=he;have m:∀ i j,R i j->(j∈s.on (xn n R q) c↔i∈(q.w.and rd).all):=λi j r=>by
  have hj:j<n:=((hA j).1 (hR.bj.d r).2).2;rw[d.all_mem hn,u_,hrd,hR.b c r,<-hs.b j c hj];unfold Rs.on;rw[mem_filter,mem_range,hs.l,Bool.and_eq_true,beq_iff_eq];unfold xn;rw[zU _ _ _ hj];rw[<-qG hR.bj r (W:=q.w)]
  cases x:JH R q.w j<;>simp[hj]
 have C:∀ j,j∈s.on (xn n R q) c->j<n:=λj h=>by
  unfold Rs.on at h;have:=(mem_filter.1 h).1;rw[mem_range,hs.l] at this;exact this
 have u:∀ i,i∈(q.w.and rd).all->i<n:=λi h=>d.mem_lt ((d.all_mem hn).1 h)
 have w:∀ i' j,R i' j->((s.on (xn n R q) c).any (λi=>(s.fol.getD i []).contains j)=true↔eQ (fC e.fs (q.w.and rd).all W4.none) i'):=λi' j r=>by
  rw[tH,any_eq_true]
  constructor
  .rintro⟨k,hk,h⟩;have l:=C k hk;obtain⟨i,ri⟩:=hR.bj.o ((hA k).2 ⟨Zk _,l⟩);refine .inr ⟨i,(m i k ri).1 hk,?_⟩;exact(hR.fo ri r).2 ((hs.fo k j l).1 (by simpa using h))
  .rintro(h|⟨i,hi,h⟩)
   .exact(gJ _ h).elim
   .obtain⟨k,ri⟩:=hR.bj.t (show Rg 0 n i from⟨Zk _,u i hi⟩);have l:k<n:=((hA k).1 (hR.bj.d ri).2).2;exact⟨k,(m i k ri).2 hi,by simpa using(hs.fo k j l).2 ((hR.fo ri r).1 h)⟩
 have o:((s.on (xn n R q) c).any (λi=>s.last.contains i)=true↔(!((q.w.and rd).and p.last).isE)=true):=by
  have h1:=(d.and p.last).isE;rw[any_eq_true]
  constructor
  .rintro⟨k,hk,h⟩;obtain⟨i,ri⟩:=hR.bj.o ((hA k).2 ⟨Zk _,C k hk⟩);have hi:=(m i k ri).1 hk;have hl:eQ p.last i:=(hR.l ri).2 ((hs.la k).1 (by simpa using h));have:¬((q.w.and rd).and p.last).isE=true:=λh2=>h1.1 h2 i (u_.2 ⟨(d.all_mem hn).1 hi,hl⟩)
   simpa using this
  .intro h2;have h3:¬ ∀ i,¬ eQ ((q.w.and rd).and p.last) i:=λk=>by rw[h1.2 k] at h2;cases h2
   obtain⟨i,hi⟩:=Classical.not_forall.1 h3;have hi:=Classical.not_not.1 hi;obtain⟨k1,k2⟩:=u_.1 hi;have y:=(d.all_mem hn).2 k1;obtain⟨k,ri⟩:=hR.bj.t (show Rg 0 n i from⟨Zk _,u i y⟩);exact⟨k,(m i k ri).2 y,by simpa using(hs.la k).2 ((hR.l ri).1 k2)⟩
 have z:∀ i j,R i j->(s.first.contains j=true↔eQ p.first i):=λi j r=>by
  rw[hR.f r,<-hs.f j];simp
 have D:s.em=p.empty:=by rw[Bool.eq_iff_iff,hs.em,hR.em]
 have key:∀(W:W4) (j:Nat),j<n->∀ i,R i j->(JH R W j=true↔eQ W i):=λW j hj i r=>qG hR.bj r
 unfold gg
 conv=>lhs;unfold xn
 rw[hs.l]
 cases hfr:s.front with
 |true=>
  refine jj (λj hj=>?_) ?_
  .obtain⟨i,r⟩:=hR.bj.o ((hA j).2 ⟨Zk _,hj⟩);rw[Bool.eq_iff_iff,key _ j hj i r];simp only[Bool.not_true,Bool.false_and,Bool.or_false];exact(w i j r).symm
  .rw[Bool.eq_iff_iff];simp only[Bool.not_true,Bool.false_and,Bool.or_false];exact o.symm
 |false=>
  refine jj (λj hj=>?_) ?_
  .obtain⟨i,r⟩:=hR.bj.o ((hA j).2 ⟨Zk _,hj⟩);rw[Bool.eq_iff_iff,key _ j hj i r];simp only[Bool.not_false,Bool.true_and];rw[Bool.or_eq_true,w i j r,z i j r];exact iY
  .rw[Bool.eq_iff_iff];simp only[Bool.not_false,Bool.true_and];rw[Bool.or_eq_true,o,D];show(!((q.w.and rd).and p.last).isE||p.empty)=true↔_;rw[Bool.or_eq_true]
include hR hA hs in
def IA:xn n R (fw p.first p.empty)=nV s:=by
 unfold xn nV;rw[hs.l];refine jj (λj hj=>?_) ?_
 .obtain⟨i,r⟩:=hR.bj.o ((hA j).2 ⟨Zk _,hj⟩);rw[Bool.eq_iff_iff];have:s.first.contains j=true↔eQ p.first i:=by rw[hR.f r,<-hs.f j];simp
  rw[this];exact qG hR.bj r
 .rw[Bool.eq_iff_iff,hs.em];exact hR.em
end
def iP (s:Rs) (limit:Nat):Option (List (List UInt8)×List (List Nat)):=bG (gg s) (List.range 256) limit 202 [nV s] 0 []
def gh (s:Rs) (back:Bool) (x:List (List UInt8)×List (List Nat)):Tn:=⟨s.front,back,List.range 256,x.1.map (λq=>q.getD s.sets.length 0==49),x.2⟩
def zV {pt:Sx.sT}{s:Rs} (hT:aX pt.choices) (h64:aY pt.choices<=64) (hs:FP s (aY pt.choices) (gK pt.choices 0)) (hf:s.front=pt.front) :
  (iP s limit=none/\bS pt limit=none)\/∃ x t,iP s limit=some x/\bS pt limit=some t/\t.acc=x.1.map (λq=>q.getD s.sets.length 0==49)/\t.front=s.front/\t.back=pt.back/\(∀ i c,c<256->(x.2.getD i []).getD c 0=nx t i (t.cls.getD c 0))/\x.2.length=t.next.length/\(∀ r∈x.2,r.length=256):=by
 obtain⟨he,hp⟩:=lp pt.choices hT 0 ⟨[],[]⟩ fF ω ⟨rfl,rfl,λx hx=>by simp at hx⟩ (eE.zero 0);rw[Nat.zero_add] at he hp;obtain⟨R,hR⟩:=Is hT h64;have hA:∀ i,(gK pt.choices 0).S i↔Rg 0 (aY pt.choices) i:=λi=>by
  have:=ve pt.choices hT 0 i
  rwa [Nat.zero_add] at this
 have h1:iP s limit=(bG (bq ⟨(bF pt.choices fF ⟨[],[]⟩).2.fs,(bF pt.choices fF ⟨[],[]⟩).1,pt.front⟩) (ai [] (eS (bF pt.choices fF ⟨[],[]⟩).2.bs)) limit 202 [fw (bF pt.choices fF ⟨[],[]⟩).1.first (bF pt.choices fF ⟨[],[]⟩).1.empty] 0 []).map λx=>(x.1.map (xn (aY pt.choices) R),x.2.map (K0 (eS (bF pt.choices fF ⟨[],[]⟩).2.bs))):=by
  obtain⟨e,m⟩:∃ e,e=(bF pt.choices fF ⟨[],[]⟩).2:=⟨_,rfl⟩
  obtain⟨p,l⟩:∃ p,p=(bF pt.choices fF ⟨[],[]⟩).1:=⟨_,rfl⟩
  rw[<-m] at he hR ⊢;rw[<-l] at hp hR ⊢;have d:=kJ (step:=λq c=>bq ⟨e.fs,p,pt.front⟩ q (nu c e.bs 0 W4.none)) (step':=gg s) (f:=xn (aY pt.choices) R) (g:=λc=>c) (P:=λq=>Sp (aY pt.choices) q.w) (rs:=List.range 256) (limit:=limit)
   (λq r hq _=>Iz h64 he hp pt.front hq _)
   (λq c hq _=>by
    rw[<-hf];refine FQ h64 he hR hA hs hq (λj=>?_);rw[BC e.bs 0 W4.none (by rw[he.b];omega)];simp only[zero_le,Nat.sub_zero,true_and]
    exact⟨λq=>q.elim (λq=>(gJ j q).elim) id,.inr⟩)
   (λa b ha hb h=>Iy hR hA ha hb h) 202 [fw p.first p.empty] 0 [] (λq hq=>by
    rw[mem_singleton.1 hq]
    exact hp.f)
  rw[map_cons,map_nil,IA hR hA hs,show(List.range 256).map (λc=>c)=List.range 256 from map_id _] at d;unfold iP;rw[d];have h2:bG (λq c=>bq ⟨e.fs,p,pt.front⟩ q (nu c e.bs 0 W4.none)) (List.range 256) limit 202 [fw p.first p.empty] 0 []=bG (bq ⟨e.fs,p,pt.front⟩) (eS e.bs) limit 202 [fw p.first p.empty] 0 []:=by
   have:=kJ (step:=λq c=>bq ⟨e.fs,p,pt.front⟩ q (nu c e.bs 0 W4.none)) (step':=bq ⟨e.fs,p,pt.front⟩) (f:=λq=>q) (g:=λc=>nu c e.bs 0 W4.none) (P:=λ_=>True) (rs:=List.range 256) (limit:=limit) (λ_ _ _ _=>trivial) (λ_ _ _ _=>rfl) (λ_ _ _ _ h=>h) 202 [fw p.first p.empty] 0 [] (λ_ _=>trivial);rw[show[fw p.first p.empty].map (λq=>q)=[fw p.first p.empty] from rfl] at this;unfold eS;rw[this]
   cases bG (λq c=>bq ⟨e.fs,p,pt.front⟩ q (nu c e.bs 0 W4.none)) (List.range 256) limit 202 [fw p.first p.empty] 0 [] with
   |none=>rfl
   |some x=>simp
  have h3:=tM (step:=bq ⟨e.fs,p,pt.front⟩) (rs:=eS e.bs) (limit:=limit) 202 [fw p.first p.empty] 0 [];rw[map_nil] at h3;rw[h2,h3,Option.map_map];rfl
 rw[h1];unfold bS;rw[Zh ω]
 cases hx:bG (bq ⟨(bF pt.choices fF ⟨[],[]⟩).2.fs,(bF pt.choices fF ⟨[],[]⟩).1,pt.front⟩) (ai [] (eS (bF pt.choices fF ⟨[],[]⟩).2.bs)) limit 202 [fw (bF pt.choices fF ⟨[],[]⟩).1.first (bF pt.choices fF ⟨[],[]⟩).1.empty] 0 [] with
 |none=>exact .inl ⟨rfl,rfl⟩
 |some x=>
  refine .inr ⟨_,_,rfl,rfl,?_,hf.symm,rfl,λi c hc=>?_,χ,λr hr=>?_⟩
  .simp only[map_map];refine map_congr_left (λq _=>?_);simp only[Function.comp,xn,hs.l,vt]
   cases q.ends<;>rfl
  .unfold nx;simp only[getD_eq_getElem?_getD,getElem?_map];have hl:(eS (bF pt.choices fF ⟨[],[]⟩).2.bs).length=256:=by simp[eS]
   cases hi:x.2[i]? with
   |none=>simp
   |some r=>simp[K0,hl,hc]
  .simp only[mem_map] at hr;obtain⟨r',-,rfl⟩:=hr;simp[K0,eS]
open Sx (aO dw)
def zX {n k:Nat}{t T:Tn} (h:ej n k t) (ha:T.acc=t.acc) (hc:T.cls=List.range 256) (hl:T.next.length=t.next.length) (hr:∀ r∈T.next,r.length=256) (hx:∀ i c,c<256->nx T i c=nx t i (t.cls.getD c 0)):ej n 256 T/\∀ u,ac T (kH T 0 u)=ac t (kH t 0 u):=by
 have o:∀ c,c<256->t.cls.getD c 0<k:=λc d=>by
  have h1:c<t.cls.length:=by rw[h.ok.cl];exact d
  rw[getD_at h1];exact h.ok.ck _ (Zg _)
 refine⟨⟨⟨h.ok.n1,by rw[hc];simp,λc q=>by rw[hc] at q;exact mem_range.1 q,by rw[ha];exact h.ok.al,by rw[hl];exact h.ok.nl,λr q=>⟨hr r q,λx qx=>?_⟩⟩,λj h0 hj=>?_,λc q=>by rw[hc];exact mem_range.2 q⟩,λu=>?_⟩
 .obtain⟨i,hi,rfl⟩:=mem_iff_getElem.1 q;obtain⟨c,d,rfl⟩:=mem_iff_getElem.1 qx;have h1:=hr _ (Zg hi);have h2:=hx i c ω;have h3:nx T i c=T.next[i][c]:=by unfold nx;rw[getD_at hi,getD_at d]
  rw[<-h3,h2];exact h.ok.nx_lt (by rw[<-h.ok.nl,<-hl];exact hi) (o c ω)
 .obtain⟨i,c,h1,h2,h3⟩:=h.rc j h0 hj;obtain⟨b,hb,m⟩:=mem_iff_getElem.1 (h.su c h2);have l:b<256:=by rw[h.ok.cl] at hb;exact hb
  refine⟨i,b,h1,l,?_⟩;rw[hx i b l,getD_at hb,m,h3]
 .have:∀(u:List UInt8) (q:Nat),kH T q u=kH t q u:=λu=>by
   induction u with
   |nil=>intro q;rfl
   |cons b u ih=>
    intro q;have hb:b.toNat<256:=b.toNat_lt;have e1:kH T q (b::u)=kH T (nx T q (T.cls.getD b.toNat 0)) u:=rfl;have e2:kH t q (b::u)=kH t (nx t q (t.cls.getD b.toNat 0)) u:=rfl;rw[e1,e2,ih,hc,getD_at (show b.toNat<(List.range 256).length by simpa using hb),getElem_range,hx q b.toNat hb]
  unfold ac;rw[this,ha]
def Du {pt:Sx.sT}{s:Rs} (hl1:1<=limit) (hl2:limit<=200) (hT:aX pt.choices) (h64:aY pt.choices<=64) (hs:FP s (aY pt.choices) (gK pt.choices 0)) (hf:s.front=pt.front) :
  (iP s limit=none/\bS pt limit=none)\/∃ x t n,iP s limit=some x/\bS pt limit=some t/\n<=200/\ej n 256 (gh s pt.back x)/\aG (gh s pt.back x)=aG t/\x.1.length=n:=by
 rcases zV (limit:=limit) hT h64 hs hf with h|⟨x,t,h1,h2,h3,h4,h5,h6,h7,h8⟩
 .exact .inl h
 .obtain⟨n,k,k1,k2,k3⟩:=vh hl1 h2;obtain⟨g1,g2⟩:=zX (T:=gh s pt.back x) k3 (by simp only[gh];exact h3.symm) (by simp only[gh]) (by simp only[gh];exact h7) (by simp only[gh];exact h8) (by simp only[gh,nx] at h6 ⊢;exact h6);refine .inr ⟨x,t,n,h1,h2,ω,g1,xj g1 k3 ω ω h4.symm h5.symm g2,?_⟩;have:=k3.ok.al;rw[h3] at this
  simpa using this
open Go.RowKit
def W4.cs (s:W4):List Value:=[.int .u64 (s.x0:Int),.int .u64 (s.x1:Int),.int .u64 (s.x2:Int),.int .u64 (s.x3:Int)]
def lz {α:Type}{f:α->List Value}{s:Nat} (h:∀ x,(f x).length=s):∀ {l:List α}{i:Nat}{x:α},l[i]?=some x->∀ j,j<s->(l.flatMap f)[i*s+j]?=(f x)[j]?:=by
 intro l
 induction l with
 |nil=>intro i x hx;simp at hx
 |cons a l ih=>
  intro i x hx j hj;have ha:=h a
  cases i with
  |zero=>
   simp at hx;subst hx;rw[flatMap_cons,Zo ω]
   simp
  |succ i=>
   simp at hx;have:=ih hx j hj;rw[flatMap_cons,getElem?_append_right (by simp[ha,Nat.add_mul];omega),<-this]
   congr 1
   simp[ha,Nat.add_mul];omega
def lA {α:Type}{f:α->List Value}{s:Nat} (h:∀ x,(f x).length=s) (l:List α):(l.flatMap f).length=l.length*s:=by
 induction l with
 |nil=>simp
 |cons a l ih=>simp only[flatMap_cons,length_append,h,ih,length_cons,Nat.add_mul];omega
def W4.cs_len (s:W4):s.cs.length=4:=rfl
def dq (te:TypeId) (w:World) (base:Nat) (v:Value) (fs:List W4):Prop:=w.ownsRow base te 4 v fs.length (fs.flatMap W4.cs)
theorem dq.at {te:TypeId}{w:World} (h:dq te w base v fs)  (hi:i<fs.length) :
  ∃ g d,v=.slice (some ⟨g,0,none⟩) fs.length d/\base<=g/\gG w g (i*4) fs[i]:=by
 have h0:=h;unfold dq at h0;rcases h.2 with⟨_,hn⟩|⟨g,d,l,rfl,hb,hg,_⟩
 .omega
 .have key:∀ j,j<4->w.cell? ⟨g,i*4+j,none⟩=fs[i].cs[j]?:=λj hj=>by
   rw[h0.cellAt _ ω];exact lz W4.cs_len (Zj hi) j hj
  exact⟨g,d,rfl,hb,key 0 ω,key 1 ω,key 2 ω,key 3 ω,λo=>by simp[frozen?,hg]⟩
def dq.blk {te:TypeId}{w w':World} (h:dq te w base v fs) (hb:∀ b,v.ownBlock=some b->w'.heap[b]?=w.heap[b]?):dq te w' base v fs:=ak h hb
def dq.lt {te:TypeId}{w:World} (h:dq te w base v fs)  (hb:v.ownBlock=some b):base<=b/\b<w.heap.size:=by
 refine⟨?_,de h hb⟩;rcases h.2 with⟨rfl,_⟩|⟨g,m,d,rfl,l,_⟩
 .simp[Value.ownBlock] at hb
 .simp[Value.ownBlock] at hb;omega
def dq.mod {te:TypeId}{w w':World}{base g cap:Nat}{x:W4} (h:dq te w base (.slice (some ⟨g,0,none⟩) fs.length cap) fs) (hi:i<fs.length) (hf:Sx.Fo g (i*4) w w') (hx:gG w' g (i*4) x) :
  dq te w' base (.slice (some ⟨g,0,none⟩) fs.length cap) (fs.set i x):=by
 have h0:=h;unfold dq at h0;rcases h.2 with⟨hv,_⟩|⟨g',G,D,hv,hb,hg,F,E,J,H⟩
 .simp at hv
 .simp only[Value.slice.injEq,Option.some.injEq,Addr.mk.injEq,and_true,true_and] at hv;obtain⟨rfl,rfl⟩:=hv;obtain⟨y,e1,e2⟩:=hf.shp D te (0,0) hg;unfold dq;refine⟨by rw[lA W4.cs_len],.inr ⟨g,cap,y,χ,hb,e1,by simpa using F,E,ω,?_⟩⟩;refine ext_getElem? (λm=>?_)
  by_cases hm:m<(fs.set i x).length*4
  .have C:m<fs.length*4:=by simpa using hm
   have l:(y.toList.take ((fs.set i x).length*4))[m]?=w'.cell? ⟨g,m,none⟩:=by
    rw[getElem?_take_of_lt hm];simp[cell?,e1]
   rw[l];have hq:m / 4<fs.length:=ω;have u:m=m / 4*4+m%4:=ω;have hr:m%4<4:=mod_lt _ ω;have z:(fs.set i x)[m / 4]?=some (if i=m / 4 then x else fs[m / 4]):=by
    rw[getElem?_set]
    by_cases e:i=m / 4
    .subst e;simp[hq]
    .simp[e,hq]
   have d:=lz W4.cs_len z (m%4) hr;rw[<-u] at d;rw[d]
   by_cases e:i=m / 4
   .rw[Zi e];have o:m=i*4+m%4:=ω;generalize m%4=r at o hr;subst o
    match r,hr with
    |0,_=>exact hx.c0
    |1,_=>exact hx.c1
    |2,_=>exact hx.c2
    |3,_=>exact hx.c3
   .rw[Zh e,hf.four.cell m ω,h0.cellAt m C,<-lz W4.cs_len (Zj hq) (m%4) hr,<-u]
  .have I:(fs.set i x).length=fs.length:=length_set;rw[getElem?_eq_none σ,getElem?_eq_none (by rw[lA W4.cs_len];omega)]
def Sx.Fo.exc {w w':World} (h:Sx.Fo b off w w'):cd (λk=>k=b) w w':=⟨h.four.os,h.four.tape,h.four.output,h.four.size,h.four.block⟩
def Sx.Fo.others {w w':World} (h:Sx.Fo b off w w') {x:Value} (hc:w.cell? ⟨b,off,none⟩=some x):KeepsOthers w w':=
 ⟨h.four.size,λk o hk ho=>by
  have d:=(ZC hk)
  by_cases e:k=b
  .subst e;obtain⟨o',h1,h2⟩:=cells_of_cell hc;rw[h1] at hk;simp at hk;subst hk;rw[h2] at ho;cases ho
  .exact(h.four.block k d e).trans hk⟩
def zY (l:List W4) (i:Nat) (h:i<l.length) (f:W4->W4):l.modify i f=l.set i (f l[i]):=by
 refine ext_getElem? (λm=>?_);rw[getElem?_modify,getElem?_set]
 by_cases e:i=m
 .subst e;simp[h]
 .simp[e]
def BI (fs:List W4) (is:List Nat) (f:W4):List W4:=is.foldl (λfs i=>fs.modify i (·.or f)) fs
variable (fs is f) in
theorem BJ:(BI fs is f).length=fs.length:=by
 unfold BI
 induction is generalizing fs with
 |nil=>rfl
 |cons i is ih=>simp only[foldl_cons];rw[ih];simp
variable (fs is i f) in
theorem FR:BI fs (is++[i]) f=(BI fs is f).modify i (·.or f):=by simp[BI]
def Kw (is:List Nat) (h:∀ x∈fs,x.ok) (hf:f.ok):∀ x∈BI fs is f,x.ok:=by
 unfold BI
 induction is generalizing fs with
 |nil=>exact h
 |cons i is ih=>
  simp only[foldl_cons];refine ih (λx hx=>?_);rcases mem_modify hx with hx|⟨y,hy,rfl⟩
  .exact h x hx
  .exact W4.or_ok (h y hy) hf
def aS.at {α:Type}{enc:α->Value}{w:World}{l:List α} (h:aS enc w v l)  (hi:i<l.length):∃ b o c,v=.slice (some ⟨b,o,none⟩) l.length c/\w.cell? ⟨b,o+i,none⟩=some (enc l[i]):=by
 obtain⟨b,o,c,e,h1⟩:=h.nonnil ω;exact⟨b,o,c,e,h1 i hi⟩
def Hp (acc:List Bool) (k j:Nat):Value:=if j<k then fy ((gd acc)[j]?.getD 0) else .int .u8 0
theorem FT (acc:List Bool):(gd acc).length=acc.length:=by simp[gd]
def sF (w:World) (t:Tb) (va vn:Value) (h:aS eB w va t.acc) (hl:t.acc.length<=200) :
  Calls prog 137 #[tv t va vn] w λe w'=>∃ v,e=.returned v/\aS fy w' v (gd t.acc)/\Below w.heap.size w w':=by
 obtain⟨f,b,st,cls,d,next⟩:=t
 simp only at h hl ⊢
 obtain⟨aa,ca,rfl⟩:=h.form;obtain⟨iU,F,G,C,D⟩:=info_parts Tryz.infoU8;have HR:=zh h;obtain⟨N,hN⟩:=zx d.length;have HN:=zh hN;rw[<-hN] at hl ⊢;have M:=λw0=>dv underlying73 F G C D N ω Zs w0
 clear h hN
 go_enter func137,ntmps137
 go_wp2
 obtain⟨w2,u⟩:=zx ((w.alloc (.cells #[.bool f,.bool b,.int .i64 st,.string (ba cls),.slice aa N ca,vn] 33)).alloc (.cells (jp N (.int .u8 0)) 5));rw[<-u];have I:Below w.heap.size w w2:=by rw[u];exact ZA.alloc χ _
 have J:Nw w2 (w.heap.size+1) N (Hp d 0):=by
  rw[u];have:=Nw.new (w.alloc (.cells #[.bool f,.bool b,.int .i64 st,.string (ba cls),.slice aa N ca,vn] 33)) N (.int .u8 0) rfl 5;simp only[size_alloc] at this;exact this.congr (λj hj=>by simp[Hp])
 have HI:Hid (Below w.heap.size w w2/\Nw w2 (w.heap.size+1) N (Hp d 0)):=⟨I,J⟩
 go_loopw [13] (λi wr=>∃ k:Nat,k<=N/\i=.int .i64 k/\Below w.heap.size w wr/\Nw wr (w.heap.size+1) N (Hp d k)) (λi _=>N-(intOf i).toNat)
 case atStart=>exact⟨0,ω,rfl,HI.1,HI.2⟩
 case round=>
  obtain⟨k,hk,rfl,hb,hn⟩:=hrel;have HB:=zh hb;have m:=zh hn
  by_cases hlt:k<N
  .have K:(k:Int)<N:=ω;have E:k<d.length:=by have:=HN.out;omega
   obtain⟨g,o,c,e1,y⟩:=(HR.below hb).at (i:=k) E;simp only[Value.slice.injEq] at e1;obtain⟨rfl,-,rfl⟩:=e1;have ac:=hn.c k hlt;have af:=hn.fz;have HF:Hid (∀ j,j<N->(if j=k then fy ((gd d)[k]?.getD 0) else Hp d k j)=Hp d (k+1) j):=λj hj=>by
    unfold Hp
    by_cases e:j=k
    .subst e;rw[Zi rfl,Zi ω]
    .rw[Zh e]
     by_cases e2:j<k
     .rw[Zi e2,Zi ω]
     .rw[Zh e2,Zh ω]
   have HV:Hid ((gd d)[k]?.getD 0=if d[k] then 1 else 0):=by
    show _=_;simp[gd,E]
   obtain⟨x,hx⟩:=zx (d[k]);rw[<-hx] at y HV;clear hb hn hx
   cases x with
   |true=>
    go_wp2
    go_roundw
    case rel=>
     refine⟨k+1,ω,π,HB.setCell (p:=⟨w.heap.size+1,k,none⟩) (show w.heap.size<=w.heap.size+1 by omega) _,?_⟩;have:=(m.set k hlt (fy ((gd d)[k]?.getD 0))).congr HF;rw[HV.out] at this;exact this
    case measure=>simp[intOf]<;>omega
   |false=>
    go_wp2
    go_roundw
    case rel=>
     refine⟨k+1,ω,π,HB,m.congr (λj hj=>?_)⟩;rw[<-HF.out j hj]
     by_cases e:j=k
     .subst e;rw[Zi rfl,HV.out];unfold Hp;rw[Zh ω];rfl
     .rw[Zh e]
    case measure=>simp[intOf]<;>omega
  .have L:¬(k:Int)<N:=ω;have H:k=N:=ω;clear hb hn;go_wp2
   go_ret
   refine⟨_,rfl,?_,HB⟩;subst H;have z:(gd d).length=k:=by rw[FT];exact HN.symm
   have:=Nw.row (l:=gd d) (enc:=fy) (c:=k) (f:=Hp d k) (by rw[z];exact m) (λj hj=>by
    unfold Hp
    rw[Zi ω,Zj hj];rfl)
   rw[z] at this;exact this
def uB:prog.underlying 5=some (.int .u8):=κ
def uS:prog.underlying 9=some .string:=κ
def FU {w:World}{l:List UInt8} (h:w.ownsRow base 5 1 v l.length (l.map fy)) (hl:0<l.length):∃ g d,v=.slice (some ⟨g,0,none⟩) l.length d/\(convert 73 9 (.slice (some ⟨g,0,none⟩) l.length d)).run prog w=.ok (.string (ba l)) w:=by
 rcases h.2 with⟨_,hn⟩|⟨g,d,m,rfl,_⟩
 .omega
 .refine⟨g,d,rfl,?_⟩
  exact run_convert_bytes_back (P:=prog) w 73 9 5 ⟨g,0,none⟩ d l underlying73 uB uS (by
   intro j hj;have e:(⟨g,0,none⟩:Addr).add j=⟨g,j,none⟩:=by unfold Addr.add;split<;>simp_all
   rw[e,h.cellAt j ω]
   simp[hj,fy])
def IB {w:World}{e:TypeId}{n g:Nat} (h:w.ownsRow base e size v n xs) (hg:v.ownBlock=some g):base<=g:=by
 rcases h.2 with⟨rfl,_⟩|⟨g',l,d,rfl,hb,_⟩
 .simp[Value.ownBlock] at hg
 .simp[Value.ownBlock] at hg;omega
def zZ {g H:Nat} (hH:wa.heap.size=H) (h:(v.ownBlock=some g/\wa.grownBy w4 (some g))\/(g=H/\wa.grownBy w4 none))  (hb:b<wa.heap.size) (hn:v.ownBlock≠some b):w4.heap[b]?=wa.heap[b]?:=by
 rcases h with⟨h1,h2⟩|⟨h1,h2⟩
 .exact h2.block b hb (by rw[<-h1];exact λe=>hn e.symm)
 .exact h2.block b hb χ
def z_ {g H:Nat} (h:(v.ownBlock=some g/\wa.grownBy w4 (some g))\/(g=H/\wa.grownBy w4 none)):w4.os=wa.os/\w4.tape=wa.tape/\w4.output=wa.output/\wa.heap.size<=w4.heap.size:=by
 rcases h with⟨h1,h2⟩|⟨h1,h2⟩
 .exact⟨h2.os,h2.tape,h2.output,h2.size⟩
 .exact⟨h2.os,h2.tape,h2.output,h2.size⟩
variable (bl i row) in
theorem qH:(dX bl i row).length=row.length+1:=by simp[dX]
def mR {w:World}{e:TypeId}{n:Nat} (h:w.ownsRow base e size v n xs):∃ a c,v=.slice a n c:=by
 rcases h.2 with⟨rfl,hn⟩|⟨g,l,d,rfl,_⟩
 .exact⟨none,0,by rw[hn]⟩
 .exact⟨_,_,rfl⟩
def FV (w:World) (bl:List UInt8) (vb:Value) (h:aS fy w vb bl) (i:Nat) (hi:i<bl.length) (row:List Nat) (vr:Value) (hr:aS eI w vr (row.map Int.ofNat)) (hrow:∀ x∈row,x<bl.length) (hl:row.length<=256) (hbl:bl.length<=200) :
  Calls prog 140 #[vb,.int .i64 i,vr] w λe w'=>e=.returned (.string (ba (dX bl i row)))/\Below w.heap.size w w':=by
 have HB:=zh h;have HR:=zh hr;obtain⟨g,o,c,rfl,l⟩:=h.at hi;obtain⟨ra,rc,rfl⟩:=hr.form;obtain⟨iU,a9,a3,J,K⟩:=info_parts Tryz.infoU8;have d:(row.map Int.ofNat).length=row.length:=χ;rw[d] at HR;rw[d];obtain⟨N,hN⟩:=zx row.length;have HN:=zh hN;obtain⟨B,hB⟩:=zx bl.length;have Q:=zh hB;rw[<-hN] at hl HR ⊢;rw[<-hB] at hi hbl HB ⊢;have Z:(i:Int)<B:=ω;obtain⟨x0,D⟩:=zx (bl[i]'ω);rw[<-D] at l;simp only[fy] at l;have V:Hid ((dX bl i row).take 1=[x0]):=by
  show _=_;simp[dX,D,getD_eq_getElem?_getD,show i<bl.length by omega]
 have X:Hid (∀ k (hk:k<row.length),(dX bl i row).take (k+1+1)=(dX bl i row).take (k+1)++[bl.getD row[k] 0]):=λk hk=>by
  rw[Zl (by rw[qH];omega)];simp[dX]
 have u:=qH bl i row;obtain⟨LK,P⟩:=zx (dX bl i row);rw[<-P] at V X u ⊢;clear h hr d hN hB D P
 go_enter func140,ntmps140
 go_wp2
 obtain⟨w2,C⟩:=zx (w.alloc (.cells #[.int .u8 x0.toNat] 5));rw[<-C];have a5:Below w.heap.size w w2:=by rw[C];exact ZA
 have a8:w2.ownsRow w.heap.size 5 1 (.slice (some ⟨w.heap.size,0,none⟩) 1 1) 1 ((LK.take 1).map fy):=by
  rw[V.out];refine⟨χ,.inr ⟨w.heap.size,1,#[.int .u8 x0.toNat],rfl,zq,by rw[C];exact Za w _,zq,Zs,χ,by simp[fy]⟩⟩
 have HI:Hid (Below w.heap.size w w2/\w2.ownsRow w.heap.size 5 1 (.slice (some ⟨w.heap.size,0,none⟩) 1 1) 1 ((LK.take 1).map fy)):=⟨a5,a8⟩
 go_loopw [7,17] (λv i wr=>∃ k:Nat,k<=N/\i=.int .i64 k/\Below w.heap.size w wr/\wr.ownsRow w.heap.size 5 1 v (k+1) ((LK.take (k+1)).map fy)) (λ_ i _=>N-(intOf i).toNat)
 case atStart=>exact⟨0,ω,rfl,HI.1,HI.2⟩
 case round=>
  obtain⟨k,hk,rfl,hb,ho⟩:=hrel;have a2:=zh hb;have a4:=hb.size;have HO:=zh ho
  by_cases hlt:k<N
  .have b2:(k:Int)<N:=ω;have m:k<row.length:=by have:=HN.out;omega
   obtain⟨g2,o2,c2,e1,H⟩:=(HR.below hb).at (i:=k) (by simpa using m);simp only[Value.slice.injEq] at e1;obtain⟨rfl,-,rfl⟩:=e1;have L:(row.map Int.ofNat)[k]'(by simpa using m)=((row[k]:Nat):Int):=χ;rw[L] at H;simp only[eI] at H;have F:=hrow _ (Zg m);have U:Hid (LK.take (k+1+1)=LK.take (k+1)++[bl[row[k]]]):=by
    show _=_;rw[X.out k m,getD_eq_getElem?_getD,Zj F];rfl
   obtain⟨g3,o3,c3,e3,I⟩:=(HB.below hb).at (i:=row[k]) F;simp only[Value.slice.injEq,Option.some.injEq,Addr.mk.injEq,and_true] at e3;obtain⟨⟨rfl,rfl⟩,-,rfl⟩:=e3;obtain⟨x,hx⟩:=zx (row[k]);rw[Q.out] at Z;have b1:(row[k]:Int)<B:=by have:=Q.out;omega
   obtain⟨y,hy⟩:=zx (bl[row[k]]);rw[<-hy] at I U;rw[<-hx] at H I b1;simp only[fy] at I;clear hb ho hx hy L F Z
   go_wp2_with (at_builtin;refine aD _ rfl (.tmp 21) (.tmp 26) 73 rfl w.heap.size 5 iU _ 1 1 underlying73 a9 a3 J K rfl Zr u7 (k+1) ((LK.take (k+1)).map fy) rfl (Zm HO _) ⟨wr.heap.size,0,none⟩ 1 1 [.int .u8 y.toNat] rfl rfl (news_of_block (Za wr _)) Zt ω Zs ω σ _ rfl ?_;intro g4 k4 w4 a1 G b3;have a6:=zh a1;have b0:Hid (Below w.heap.size w w4):=a2.trans (by
     have E:Below w.heap.size wr (wr.alloc (.cells #[.int .u8 (y.toNat:Int)] 5)):=ZB.alloc a4 _;obtain⟨e1,e2,e3,e4⟩:=z_ G;refine⟨e1,e2,e3,by have:=E.size;omega,λb hb=>?_⟩;rw[<-E.block b hb]
     exact zZ rfl G (η E.size) (λq=>by have:=IB HO q;omega));clear a1 G)
   go_roundw
   case rel=>
    refine⟨k+1,ω,π,b0,?_⟩;rw[U.out,map_append];exact a6
   case measure=>simp[intOf]<;>omega
  .have b4:¬(k:Int)<N:=ω;have z:LK.take (k+1)=LK:=by rw[take_of_length_le (by rw[u];have:=HN.out;omega)]
   have Y:k+1=LK.length:=by rw[u];have:=HN.out;omega
   rw[z,Y] at ho;obtain⟨g4,c4,O,a7⟩:=FU ho ω;obtain⟨M,hM⟩:=zx LK.length;rw[<-hM] at a7 O;clear hM Y ho hb z HO u;subst O;go_wp2
   go_ret
   exact⟨rfl,a2⟩
theorem fV.at {w:World} (h:fV eI w v ls)  (hi:i<ls.length):∃ b o c u,v=.slice (some ⟨b,o,none⟩) ls.length c/\w.cell? ⟨b,o+i,none⟩=some u/\aS eI w u ls[i]:=by
 obtain⟨us,h1,h2,h3⟩:=h;obtain⟨b,o,c,e,hc⟩:=h2.at (i:=i) ω;exact⟨b,o,c,us[i],by rw[e,h1],hc,h3 i ω hi⟩
theorem fV.form {w:World} (h:fV eI w v ls):∃ a c,v=.slice a ls.length c:=by
 obtain⟨us,h1,h2,h3⟩:=h;obtain⟨a,c,e⟩:=h2.form;exact⟨a,c,by rw[e,h1]⟩
def xo (next:List (List Nat)):List (List Int):=next.map λr=>r.map Int.ofNat
variable (next) in
theorem ie:(xo next).length=next.length:=by simp[xo]
variable (next k) in
def qJ (h:k<next.length):(xo next)[k]'(by rw[ie];exact h)=next[k].map Int.ofNat:=by simp[xo]
def JJ (col:List UInt8) (k j:Nat):Value:=if j<k then fy (col[j]?.getD 0) else .int .u8 0
def FW {w:World}{g n:Nat}{l:List UInt8} (h:Nw w g n (λj=>fy (l[j]?.getD 0))) (hl:l.length=n):(convert 73 9 (.slice (some ⟨g,0,none⟩) n n)).run prog w=.ok (.string (ba l)) w:=by
 have:=run_convert_bytes_back (P:=prog) w 73 9 5 ⟨g,0,none⟩ n l underlying73 uB uS (by
  intro j hj;have:=h.c j ω;have e:(⟨g,0,none⟩:Addr).add j=⟨g,j,none⟩:=by unfold Addr.add;split<;>simp_all
  rw[e]
  simpa [hj,fy] using this)
 rw[hl] at this;exact this
def Aa (w:World) (f b:Bool) (st:Int) (cls:ByteArray) (va vn vb:Value) (next:List (List Nat)) (bl:List UInt8) (cl:Nat) (h:fV eI w vn (xo next)) (hb:aS fy w vb bl) (hrow:∀ r∈next,cl<r.length/\(∀ x∈r,x<bl.length)/\r.length<=256) (hl:next.length<=200) (hbl:bl.length<=200) :
  Calls prog 142 #[.agg #[.bool f,.bool b,.int .i64 st,.string cls,va,vn],vb,.int .i64 cl] w λe w'=>e=.returned (.string (ba (iJ bl next cl)))/\Below w.heap.size w w':=by
 have HN:=zh h;have HB:=zh hb;obtain⟨na,nc,rfl⟩:=h.form;obtain⟨b4,a9,rfl⟩:=hb.form;obtain⟨iU,V,Y,O,P⟩:=info_parts Tryz.infoU8;rw[ie] at HN ⊢;obtain⟨N,D⟩:=zx next.length;have Z:=zh D;obtain⟨B,hB⟩:=zx bl.length;have I:=zh hB;rw[<-D] at hl HN ⊢;rw[<-hB] at hbl HB ⊢;have b2:=λw0=>dv underlying73 V Y O P N ω Zs w0
 have K:(iJ bl next cl).length=N:=by simp[iJ,D]
 have U:Hid (∀ k (hk:k<next.length),(iJ bl next cl)[k]?.getD 0=bl.getD (next[k].getD cl 0) 0):=λk hk=>by simp[iJ,hk]
 obtain⟨C,hC⟩:=zx (iJ bl next cl);rw[<-hC] at K U ⊢;have a2:=zh K;clear h hb D hB hC K
 go_enter func142,ntmps142
 go_wp2
 obtain⟨w2,H⟩:=zx ((w.alloc (.cells #[.bool f,.bool b,.int .i64 st,.string cls,va,.slice na N nc] 33)).alloc (.cells (jp N (.int .u8 0)) 5));rw[<-H];have a3:Below w.heap.size w w2:=by rw[H];exact ZA.alloc χ _
 have a4:Nw w2 (w.heap.size+1) N (JJ C 0):=by
  rw[H];have:=Nw.new (w.alloc (.cells #[.bool f,.bool b,.int .i64 st,.string cls,va,.slice na N nc] 33)) N (.int .u8 0) rfl 5;simp only[size_alloc] at this;exact this.congr (λj hj=>by simp[JJ])
 have HI:Hid (Below w.heap.size w w2/\Nw w2 (w.heap.size+1) N (JJ C 0)):=⟨a3,a4⟩
 go_loopw [17] (λi wr=>∃ k:Nat,k<=N/\i=.int .i64 k/\Below w.heap.size w wr/\Nw wr (w.heap.size+1) N (JJ C k)) (λi _=>N-(intOf i).toNat)
 case atStart=>exact⟨0,ω,rfl,HI.1,HI.2⟩
 case round=>
  obtain⟨k,hk,rfl,E,hn⟩:=hrel;have Q:=zh E;have X:=zh hn
  by_cases hlt:k<N
  .have a6:(k:Int)<N:=ω;have z:k<next.length:=by have:=Z.out;omega
   obtain⟨g,o,c,u,e1,m,J⟩:=(HN.below E).at (i:=k) (by rw[ie];exact z);simp only[Value.slice.injEq] at e1;obtain⟨rfl,-,rfl⟩:=e1;rw[qJ next k z] at J;obtain⟨q1,q2,q3⟩:=hrow _ (Zg z);obtain⟨g2,o2,c2,rfl,F⟩:=J.at (i:=cl) (by simpa using q1);simp only[getElem_map,length_map] at F m;have G:=q2 _ (Zg q1);obtain⟨g3,o3,c3,e3,M⟩:=(HB.below E).at (i:=next[k][cl]) G;simp only[Value.slice.injEq] at e3;obtain⟨rfl,-,rfl⟩:=e3;have d:=U k z;rw[getD_eq_getElem?_getD,getD_eq_getElem?_getD,Zj q1,Option.getD_some,Zj G,Option.getD_some] at d;obtain⟨L,hL⟩:=zx (next[k].length);rw[<-hL] at m;have a5:cl<L:=ω;obtain⟨x,hx⟩:=zx (next[k][cl]);have b0:(x:Int)<B:=by have:=I.out;rw[hx];omega
   have a8:x<B:=by have:=I;rw[hx];omega
   simp only[<-hx] at F M d;obtain⟨y,hy⟩:=zx (bl[x]'(η I));rw[<-hy] at M d;simp only[fy] at M;have a7:wr.cell? ⟨g2,o2+cl,none⟩=some (.int .i64 (x:Int)):=F;have ac:=hn.c k hlt;have af:=hn.fz;have HF:Hid (∀ j,j<N->(if j=k then(Value.int .u8 (y.toNat:Int)) else JJ C k j)=JJ C (k+1) j):=λj hj=>by
    unfold JJ
    by_cases e:j=k
    .subst e;rw[Zi rfl,Zi ω,d];rfl
    .rw[Zh e]
     by_cases e2:j<k
     .rw[Zi e2,Zi ω]
     .rw[Zh e2,Zh ω]
   clear E hn J q1 q2 q3 G hL hx hy d F;go_wp2
   go_roundw
   case rel=>
    exact⟨k+1,ω,π,Q.setCell (p:=⟨w.heap.size+1,k,none⟩) (show w.heap.size<=w.heap.size+1 by omega) _,(X.set k hlt (.int .u8 (y.toNat:Int))).congr HF⟩
   case measure=>simp[intOf]<;>omega
  .have b1:¬(k:Int)<N:=ω;have a1:k=N:=ω;subst a1;have b3:=FW (l:=C) (hn.congr (f':=λj=>fy (C[j]?.getD 0)) (λj hj=>by unfold JJ;rw[Zi hj])) a2;go_wp2
   go_ret
   exact⟨rfl,Q⟩
variable (bl next) in
theorem tN:(bN bl next).length=next.length:=by simp[bN]
variable (bl next k) in
def looks_at (h:k<next.length):(bN bl next)[k]'(by rw[tN];exact h)=dX bl k next[k]:=by simp[bN]
def Hq (L:List (List UInt8)) (k j:Nat):Value:=if j<k then fy (UInt8.ofNat (bU (ai [] L) (L[j]?.getD []))) else .int .u8 0
structure LI (S:Nat) (wS:World) (fb n:Nat) (W:World) (v:Value) (met:List (List UInt8)) (f:Nat->Value):Prop where
 num:av 9 1 W (S+1) S v (met.map tu) 0
 nv:∀ g,v.ownBlock=some g->fb<g
 fb2:S+2<=fb
 fi:Nw W fb n f
 bl:Below S wS W
 lt:fb<W.heap.size
section
variable {S:Nat}{wS:World}{fb n:Nat}{W W':World}{v:Value}{met:List (List UInt8)}{f:Nat->Value}
def LI.below (h:LI S wS fb n W v met f) (hS:wS.heap.size=S) (hb:Below W.heap.size W W'):LI S wS fb n W' v met f:=by
 have:=h.bl.size;refine⟨h.num.keep (λb hb'=>hb.block b (h.num.lt hb')),h.nv,h.fb2,h.fi.of_block (hb.block fb h.lt),h.bl.trans (hb.mono ω),Zd h.lt hb.size⟩
def LI.of (h:LI S wS fb n W v met f) {v':Value}{met':List (List UInt8)} (hn:av 9 1 W' (S+1) S v' (met'.map tu) 0) (hg:∀ g,v'.ownBlock=some g->v.ownBlock=some g\/W.heap.size<=g) (hx:cd (cZ (S+1) S v) W W'):LI S wS fb n W' v' met' f:=by
 have h2:=h.fb2;have h3:=h.lt;have hf:∀ {b},cZ (S+1) S v b->S<=b/\b≠fb:=λ{b} q=>by
  rcases q with q|q|q
  .omega
  .omega
  .have:=h.nv b q.symm;omega
 refine⟨hn,λg hg'=>?_,h2,h.fi.of_block (hx.block fb h3 (λq=>(hf q).2 rfl)),⟨hx.os.trans h.bl.os,hx.tape.trans h.bl.tape,hx.output.trans h.bl.output,Zc h.bl.size hx.size,λb hb=>?_⟩,Zd h3 hx.size⟩
 .rcases hg g hg' with q|q
  .exact h.nv g q
  .omega
 .rcases Nat.lt_or_ge b W.heap.size with d|l
  .exact(hx.block b d (λq=>by have:=(hf q).1;omega)).trans (h.bl.block b hb)
  .omega
theorem LI.set (h:LI S wS fb n W v met f) (k:Nat) (hk:k<n) (x:Value):LI S wS fb n (W.setCell ⟨fb,k,none⟩ x) v met (λj=>if j=k then x else f j):=by
 have h2:=h.fb2;refine⟨h.num.exc (S:=λb=>b=fb) (iN rfl) (λb hb q=>?_),h.nv,h2,h.fi.set k hk x,h.bl.setCell (p:=⟨fb,k,none⟩) (show S<=fb by omega) _,by rw[cQ];exact h.lt⟩;rcases hb with hb|hb|hb
 .omega
 .omega
 .have:=h.nv b hb.symm;omega
end
open Go.RowKit
structure LX (w:World) (next:List (List Nat)) (R:List UInt8) (tc:Array Value) (W:World) (v:Value) (bl:List UInt8) (many fu:Nat):Prop where
 row:aS fy W v bl
 len:bl.length=next.length
 bel:Below w.heap.size w W
 box:W.heap[w.heap.size]?=some (.cells tc 33)
 fue:e_ next fu bl many=R
 big:202<=fu+many
 man:many<=next.length
def FX (a:Act):Nat:=(intOf (a.tmps.getD 4 undef)).toNat
def Dv (w:World) (f b:Bool) (st:Int) (cls:List UInt8) (va vn:Value) (acc:List Bool) (next:List (List Nat)) (hA:aS eB w va acc) (hN:fV eI w vn (xo next)) (n K:Nat) (ha:acc.length=n) (hnl:next.length=n) (hrow:∀ r∈next,r.length=K/\∀ x∈r,x<n) (hn200:n<=200) (hK:K<=256) :
  Calls prog 79 #[.agg #[.bool f,.bool b,.int .i64 st,.string (ba cls),va,vn]] w λe w'=>∃ v,e=.returned v/\aS fy w' v (e_ next 202 (gd acc) 0)/\Below w.heap.size w w':=by
 obtain⟨R,hR⟩:=zx (e_ next 202 (gd acc) 0);rw[<-hR];have HR:=zh hR;clear hR;have HN:=zh hN;obtain⟨na,nc,d4⟩:=hN.form;rw[ie,hnl] at d4;subst d4;obtain⟨iU,f0,d7,b7,b8⟩:=info_parts Tryz.infoU8;obtain⟨tc,P⟩:=zx (#[.bool f,.bool b,.int .i64 st,.string (ba cls),va,.slice na n nc]);have g0:=zh P;have b5:Below w.heap.size w (w.alloc (.cells tc 33)):=ZA;have b4:=sF (w.alloc (.cells tc 33)) ⟨f,b,st,cls,acc,xo next⟩ va (.slice na n nc) (hA.below b5) (by rw[ha];exact hn200);simp only[P] at b4;have D:Hid (∀ w2 v,Below (w.alloc (.cells tc 33)).heap.size (w.alloc (.cells tc 33)) w2->aS fy w2 v (gd acc)->LX w next R tc w2 v (gd acc) 0 202):=λw2 v U hr=>by
  refine⟨hr,by rw[FT,ha,hnl],b5.trans (U.mono χ),(U.block _ χ).trans (Za w _),HR.symm,ω,ω⟩
 simp only[P] at D;obtain⟨J,hJ⟩:∃ J:Act->World->Prop,∀ a' w',J a' w'↔(∃ v bl z fu,LX w next R tc w' v bl z fu/\∃ u5 u6 u7 u8 u9 u10 u11 u12 u13 u14 u15 u16 u17 u18 u19 u20 u21 u22 u23 u24 u25 u26 u27 u28 u29 u30 u31 u32 u33 u34 u35 u36 u37 u38 u39 u40 u41,a'={tmps:=#[.agg #[.bool f,.bool b,.int .i64 st,.string (ba cls),va,.slice na n nc],.pointer (some ⟨w.heap.size,0,none⟩),.slice none 0 0,v,.int .i64 (z:Int),u5,u6,u7,u8,u9,u10,u11,u12,u13,u14,u15,u16,u17,u18,u19,u20,u21,u22,u23,u24,u25,u26,u27,u28,u29,u30,u31,u32,u33,u34,u35,u36,u37,u38,u39,u40,u41],defers:=[]}):=⟨_,λ_ _=>Iff.rfl⟩
 have HJ:=zh hJ;clear hJ hA hN b5
 go_enter func79,ntmps79
 go_wp2
 refine Sx.ce 0 J (λa' _=>202-FX a') rfl ?_ ?_
 .intro hp;have f4:Hid _:=hp;clear hp;go_wp2_with (go_at_call 137;refine b4.mono ?_;rintro e w2 ⟨v,rfl,b6,U⟩;have HS:Hid (LX w next R tc w2 v (gd acc) 0 202):=(by rw[P];exact D w2 v U b6);clear b6 U)
  go_step3
  exact ‹∀ a w,Code.wp _ _ _ a w->_› _ _ (f4 _ _ ((HJ _ _).2 ⟨v,gd acc,0,202,HS,_,_,_,_,_,_,_,_,_,_,_,_,_,_,_,_,_,_,_,_,_,_,_,_,_,_,_,_,_,_,_,_,_,_,_,_,_,rfl⟩))
 .intro a' w' hj;obtain⟨v,bl,z,fu,E,u5,u6,u7,u8,u9,u10,u11,u12,u13,u14,u15,u16,u17,u18,u19,u20,u21,u22,u23,u24,u25,u26,u27,u28,u29,u30,u31,u32,u33,u34,u35,u36,u37,u38,u39,u40,u41,rfl⟩:=(HJ _ _).1 hj;clear hj;have a1:=zh E;have e7:=E.len;have f6:=E.man;have f8:=E.big;obtain⟨e6,d9,hv⟩:=E.row.form;rw[e7,hnl] at hv;have HV:=zh hv;obtain⟨I,c3⟩:∃ I,fu=I+1:=⟨fu-1,ω⟩
  obtain⟨L,hL⟩:=zx (bN bl next);have f5:L.length=n:=by rw[hL,tN,hnl]
  have d2:Hid (∀ k (h:k<next.length),L[k]'ω=dX bl k next[k]):=λk h=>by simp only[hL];exact looks_at bl next k h
  have F:Hid (R=if z<(ai [] L).length then e_ next I (L.map λl=>UInt8.ofNat (bU (ai [] L) l)) (ai [] L).length else bl):=by
   show _=_;rw[<-E.fue,c3,hL];rfl
  have f2:(ai [] L).length<=n:=by have:=c_ [] L;simp at this;omega
  have Y:Hid (∀ l∈L,l.length<=257):=λl hl=>by
   obtain⟨j,hj,rfl⟩:=getElem_of_mem hl;rw[d2.out j ω,qH,(hrow _ (Zg _)).1];omega
  obtain⟨S,hS⟩:=zx w'.heap.size;have V:=tp w';rw[<-hS] at V;have e5:=λw0=>dv underlying73 f0 d7 b7 b8 n ω Zs w0
  have Q:Hid (∀ w3,av 9 1 w3 (S+1) S (.slice none 0 0) [] 0->Below S w' w3->LI S w' w3.heap.size n (w3.alloc (.cells (jp n (.int .u8 0)) 5)) (.slice none 0 0) [] (Hq L 0)):=λw3 hn hb=>by
   have f9:=hn.lt (.inl rfl);have c0:Below w3.heap.size w3 (w3.alloc (.cells (jp n (.int .u8 0)) 5)):=ZA;refine⟨hn.keep (λq hq=>c0.block q (hn.lt hq)),λg hg=>by simp[Value.ownBlock] at hg,ω,(Nw.new w3 n (.int .u8 0) rfl 5).congr (λj hj=>by simp[Hq]),hb.trans (c0.mono (η hb.size)),χ⟩
  have HS:=zh hS.symm;have g1:w.heap.size+1<=S:=by have:=(ZC E.box);omega
  have d5:Hid (∀ W,Below S w' W->W.cell? ⟨w.heap.size,5,none⟩=some (.slice na n nc)):=λW hb=>by
   have e1:=(hb.block w.heap.size ω).trans a1.box;simp[cell?,e1,P]
  have N:Hid (∀ W,Below S w' W->Below w.heap.size w W):=λW hb=>a1.bel.trans (hb.mono ω)
  have a6:Hid (∀ W,Below S w' W->aS fy W v bl):=λW hb=>a1.row.below (by rw[HS.out];exact hb)
  have f3:202<=I+1+z:=ω;subst hv;clear E hL hS c3 b4 D;go_wp2_with (go_at_call 138;refine V.mono ?_;rintro e w3 ⟨rfl,c1,c2⟩;have d:=Q w3 c1 c2;have h5:=d5 _ d.bl;clear c1 c2)
  obtain⟨w4,a7⟩:=zx (w3.alloc (.cells (jp n (.int .u8 0)) 5));obtain⟨fb,b3⟩:=zx w3.heap.size;rw[<-a7,<-b3] at d;rw[<-a7,<-b3];have d6:=zh d;clear a7 b3 d h5 e5 V Q
  go_loopw [18] (λi wr=>∃(k:Nat) (v':Value),k<=n/\i=.int .i64 k/\LI S w' fb n wr v' (ai [] (L.take k)) (Hq L k)) (λi _=>n-(intOf i).toNat)
  case atStart=>exact⟨0,_,ω,rfl,d6⟩
  case round=>
   obtain⟨k,v',hk,rfl,d⟩:=hrel;have a3:=zh d
   by_cases hlt:k<n
   .have f7:(k:Int)<n:=ω;have H:k<next.length:=ω;obtain⟨g,o,c,u,e1,e4,b2⟩:=(HN.below (N wr d.bl)).at (i:=k) (by rw[ie];exact H);simp only[Value.slice.injEq] at e1;obtain⟨rfl,-,rfl⟩:=e1;rw[qJ next k H] at b2;obtain⟨q1,q2⟩:=hrow _ (Zg H);have b0:=FV wr bl (.slice e6 n d9) (a6 wr d.bl) k ω next[k] u b2 (λx hx=>by have:=q2 x hx;omega) ω ω;rw[<-d2.out k H] at b0;have a9:L[k]'ω∈L:=Zg _;have O:Hid (ai [] (L.take (k+1))=aq (ai [] (L.take k)) (L[k]'ω)):=dG [] ω;have c6:Hid (bU (ai [] L) (L[k]'ω)=@idxOf _ instBEqOfDecidableEq (L[k]'ω) (aq (ai [] (L.take k)) (L[k]'ω))):=qw [] ω;have hC:bU (ai [] L) (L[k]'ω)<256:=by
     have:bU (ai [] L) (L[k]'ω)<(ai [] L).length:=eZ (aH.2 (.inr a9));omega
    have b1:Hid (∀ j,j<n->(if j=k then(Value.int .u8 ((bU (ai [] L) (L[k]'ω):Nat):Int)) else Hq L k j)=Hq L (k+1) j):=λj hj=>by
     unfold Hq
     by_cases e:j=k
     .subst e;rw[Zi rfl,Zi ω,Zj ω];simp only[Option.getD_some,fy];rw[UInt8.toNat_ofNat',mod_eq_of_lt hC]
     .rw[Zh e]
      by_cases e2:j<k
      .rw[Zi e2,Zi ω]
      .rw[Zh e2,Zh ω]
    have Z:=(λW (h:LI S w' fb n W v' (ai [] (L.take k)) (Hq L k))=>w_ W (S+1) S v' (ai [] (L.take k)) 0 (L[k]'ω) h.num (λy hy=>by
     have:y∈L:=mem_of_mem_take (by simpa using aH.1 hy)
     have:=Y y this;omega) (η (Y _ a9)) (Zu (c_ [] (L.take k))) (bR χ _))
    simp only[<-c6.out] at Z;have a2:Hid (∀ W,LI S w' fb n W v' (ai [] (L.take k)) (Hq L k)->Calls prog 139 #[.pointer (some ⟨S+1,0,none⟩),.string (ba (L[k]'ω))] W λe w''=>e=.returned (.int .i64 ((bU (ai [] L) (L[k]'ω):Nat):Int))/\∃ v2,av 9 1 w'' (S+1) S v2 ((aq (ai [] (L.take k)) (L[k]'ω)).map tu) 0/\(∀ g,v2.ownBlock=some g->v'.ownBlock=some g\/W.heap.size<=g)/\cd (cZ (S+1) S v') W w''):=Z;obtain⟨X,hX⟩:=zx (L[k]'ω);rw[<-hX] at b0 O b1 a2 hC;obtain⟨m,hm⟩:=zx (ai [] (L.take k));rw[<-hm] at O a2 a3;obtain⟨C,b9⟩:=zx (bU (ai [] L) X);rw[<-b9] at b1 a2 hC;have g4:(C:Int)<256:=ω;clear d b2 q1 q2 a9 c6 Z hX hm b9;have af:=a3.fi.fz;go_wp2_with (first|(go_at_call 139;refine(a2 w5 d0).mono ?_;rintro e w6 ⟨rfl,v2,c7,d1,c8⟩;have a5:=d0.of c7 d1 c8;have e3:=zh a5;have g5:=a5.fi.c k hlt;have g2:=a5.fi.fz;clear c7 d1 c8 a5)|(go_at_call 140;refine b0.mono ?_;rintro e w5 ⟨rfl,d3⟩;have d0:=zh (a3.below HS d3);clear d3))
    go_roundw
    case rel=>
     refine⟨k+1,v2,ω,π,?_⟩;have h7:=e3.set k hlt (.int .u8 (C:Int));rw[O.out];exact⟨h7.num,h7.nv,h7.fb2,h7.fi.congr b1,h7.bl,h7.lt⟩
    case measure=>simp[intOf]<;>omega
   .have g3:¬(k:Int)<n:=ω;have H:k=n:=ω;subst H;rw[take_of_length_le ω] at d;have a4:=zh d;have G:=wV wr (S+1) S v' ((ai [] L).map tu) 0 d.num;rw[length_map] at G;obtain⟨M,hM⟩:=zx ((ai [] L).length);rw[<-hM] at G F f2;have e0:Hid (aS fy wr (.slice (some ⟨fb,0,none⟩) k k) (L.map λl=>UInt8.ofNat (bU (ai [] L) l))):=by
     have c4:(L.map λl=>UInt8.ofNat (bU (ai [] L) l)).length=k:=by simp[f5]
     have:=Nw.row (l:=L.map λl=>UInt8.ofNat (bU (ai [] L) l)) (enc:=fy) (c:=k) (f:=Hq L k) (by rw[c4];exact d.fi) (λj hj=>by
      have f1:j<L.length:=by simpa using hj
      unfold Hq;rw[Zi ω,Zj f1]
      simp)
     rw[c4] at this;exact this
    have d8:M<=next.length:=ω;clear d a3 hM
    by_cases hgt:z<M
    .have c9:(z:Int)<M:=ω;have e9:Hid (LX w next R tc wr (.slice (some ⟨fb,0,none⟩) k k) (L.map λl=>UInt8.ofNat (bU (ai [] L) l)) M I):=by
      refine⟨e0,σ,N wr a4.bl,(a4.bl.block _ ω).trans a1.box,?_,ω,d8⟩;rw[F.out,Zi hgt]
     go_wp2_with (go_at_call 141;refine G.mono ?_;rintro e w9 ⟨rfl,a8⟩;obtain rfl:=a8.symm)
     go_step3
     refine⟨rfl,(HJ _ _).2 ⟨_,_,M,I,e9,_,_,_,_,_,_,_,_,_,_,_,_,_,_,_,_,_,_,_,_,_,_,_,_,_,_,_,_,_,_,_,_,_,_,_,_,_,rfl⟩,?_⟩;simp[FX,intOf];omega
    .have c9:¬(z:Int)<M:=ω;have HQ:Hid (R=bl):=by show _=_;rw[F.out,Zh hgt]
     go_wp2_with (go_at_call 141;refine G.mono ?_;rintro e w9 ⟨rfl,a8⟩;obtain rfl:=a8.symm)
     simp only[Exit.jump];go_ret
     refine⟨_,rfl,?_,N wr a4.bl⟩;rw[HQ.out];exact a6 wr a4.bl
end Go.Proofs.YtbjabpodkaokjaaGreatDoor
