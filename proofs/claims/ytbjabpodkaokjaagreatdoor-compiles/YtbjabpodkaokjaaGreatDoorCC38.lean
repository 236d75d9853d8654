import Derived.Test.YtbjabpodkaokjaaGreatDoorCC26
import Derived.Test.YtbjabpodkaokjaaGreatDoorCC36
import Derived.Test.YtbjabpodkaokjaaGreatDoorCC32
set_option linter.all false
set_option maxHeartbeats 4000000
set_option maxRecDepth 100000
open List Nat Go.World Go.Proofs.Tryz
namespace Go.Proofs.YtbjabpodkaokjaaGreatDoor
open Go.RowKit
open Sx (aV dp RT)
variable {w:World}{s:ByteArray}{limit:Int}{x:List (List UInt8)×List (List Nat)}{S:Rs}{nA:Nat}
def KZ {s:Rs}{limit:Nat} (h:iP s limit=some x):∀ q∈x.1,q.length=s.sets.length+1:=by
 unfold iP at h;generalize List.range 256=K at h;obtain⟨-,r,hr⟩:=nU (show BD (gg s) K [nV s] 0 [] from⟨rfl,Zk _,λi q hi=>absurd hi ω⟩) h
 have h2:=qE χ (λj q hj e=>by
  rw[getElem?_eq_none σ] at e
  cases e) (Zk _) h
 intro q hq;obtain⟨j,hj,rfl⟩:=mem_iff_getElem.1 hq;rcases eq_zero_or_pos j with rfl|hp
 .have:x.1[0]?=some (nV s):=by rw[<-hr];rfl
  rw[Zj hj] at this;injection this with this;rw[this];exact jB _ _ _
 .obtain⟨i,p,r,-,-,-,e⟩:=h2 j _ hp (Zj hj);rw[<-e];exact jB _ _ _
variable (w s) in
def Hm (h:s.size<=200) {x y:Int} (hx:∀ a b,Sx.LT s.data.toList a b->a=x/\b=y):K4 w s x y:=λW _=>by
 refine(Sx.AX s W h).mono ?_;rintro e w' ⟨a,b,rfl,hs,hb⟩;obtain⟨rfl,rfl⟩:=hx a b hs;exact⟨rfl,hb⟩
def JV {p:Sx.sT}{limit:Nat} (hl:1<=limit/\limit<=200) (h0:p.choices≠[]) (hT:aX p.choices) (hc:tQ (dp p.choices)) (hk:ny (dp p.choices)) (h64:bO (dp p.choices)<=64) (hb:4096*dt (dp p.choices)<=800000000) {SP:World->World->Ending->Prop}
  (hSP:∀ W W' e,(Below W.heap.size W W'/\((iP (pn (dY (dp p.choices) ⟨[],[]⟩).2 (dY (dp p.choices) ⟨[],[]⟩).1 p.front) limit=none/\e=.returned (.tuple #[.slice none 0 0,.slice none 0 0]))\/∃ X va vn bx,iP (pn (dY (dp p.choices) ⟨[],[]⟩).2 (dY (dp p.choices) ⟨[],[]⟩).1 p.front) limit=some X/\e=.returned (.tuple #[va,vn])/\SA W W' bx va vn X.1 X.2))->SP W W' e) :
  Mr limit p.front (dY (dp p.choices) ⟨[],[]⟩).1.em (dp p.choices) SP:=λW g W1 sp hr b hW1=>by
 subst b hW1;have hW:Below W.heap.size W ((W.alloc oX).alloc (lY W.heap.size p.front)):=ZA.alloc χ _;have hS:=(GY W).below (fN (W.alloc oX) (lY W.heap.size p.front));refine(D1 hc hk h64 hb hr hW hS).mono ?_;rintro e w' ⟨O',f,l,rfl,c,a,hF⟩;obtain⟨f1,f2,f3,rfl⟩:=a.pc.f.shape;obtain⟨l1,l2,l3,rfl⟩:=a.pc.l.shape;have hx:w'.heap[W.heap.size+1]?=some (lY W.heap.size p.front):=by
  rw[hF.kp (W.heap.size+1) χ (by
   rintro(q|q|q|⟨u,hu,_⟩)
   .omega
   .cases q
   .cases q
   .cases hu)]
  have:=Za (W.alloc oX) (lY W.heap.size p.front)
  simpa using this
 refine⟨f1,f2,f3,l1,l2,l3,rfl,hW.trans hF.bl,hx,λW2 h1 h2=>?_⟩;have b:=(rQ h0 hT h64 p.front).2;obtain⟨vs,vf,us,hR⟩:=KR c a h64 h64 hb (λi j hj=>by rw[<-b];exact GZ h0 hT i j hj);refine(xY (hR.keep hx h1 h2) p.front limit hl _ rfl).mono (λe W3 h=>hSP W2 W3 e h)
def Hn {s:List UInt8}{p:Sx.sT}{r:List UInt8} (h:Sx.cz s=.ok p r):p.choices≠[]:=by
 unfold Sx.cz at h
 split at h
 .simp at h
 .rename_i cs r' h1
  split at h
  .injection h with e _;subst e;exact Sx.oK h1
  .simp at h
def LQ {bk:Bool} (hF:ej nA 256 (gh S bk x)) (hxl:x.1.length=nA) {W W':World}{bx:Array Value}{va vn:Value} (h:SA W W' bx va vn x.1 x.2) (hb:Below W.heap.size W W'):Ms nA (λi=>x.1.getD i []) (nx (gh S bk x)) W W' (.returned (.tuple #[va,vn])):=by
 have k:=hF.ok.n1;have b:x.2.length=nA:=hF.ok.nl;obtain⟨G,ca,c,g,-⟩:=h.at (j:=0) ω;obtain⟨V,cv,a,f,hc⟩:=h.next (λr hr=>(hF.ok.r r hr).1) ω;subst c a;rw[hxl,b];refine⟨G,ca,V,cv,rfl,ω,ω,λi hi=>?_,λi z hi hz=>hc i z ω hz,hb⟩;obtain⟨G',d,e,-,h1⟩:=h.at (j:=i) ω;injection e with e _ _;injection e with e;injection e with e;subst e;rw[h1]
 simp only
 rw[getD_at ω];rfl
def LR {bk:Bool} (hF:ej nA 256 (gh S bk x)) (hnA:nA<=200) (hxl:x.1.length=nA):MG nA (λi=>(x.1.getD i []).getD S.sets.length 0==49) (nx (gh S bk x)) ((aG (gh S bk x)).cls.map UInt8.ofNat) (aG (gh S bk x)).acc ((aG (gh S bk x)).next.map λr=>r.map Int.ofNat) S.front bk:=λW ga V ca cv hca hcv hA hV=>by
 refine(AQ W nA (gh S bk x) hF hnA (by simp only[gh]) ga V ca cv hca hcv (λi hi=>?_) hV).mono ?_
 .rw[hA i hi];have a:i<x.1.length:=ω;simp only[ac,gh];rw[getD_at a [],getD_at (by rw[length_map];exact a) false,getElem_map]
 .rintro e w' ⟨va,vn,us,B,rfl,hb,hB,h1,h2,h3⟩;obtain⟨a1,a3,rfl,-⟩:=b_ h1;obtain⟨n1,n3,rfl,-⟩:=b_ h2;refine⟨a1,_,a3,n1,_,n3,rfl,λw2 k=>?_,hb⟩;have:=KV h1 h2 h3 hB w2 k;exact⟨this.acc,this.next⟩
variable (w s limit) in
def Ej (hs:s.size<=maxLen) :
  Calls prog 15 #[.string s,.int .i64 limit] w λe w'=>G6 w.heap.size w' (gX s.data.toList limit) e/\Below w.heap.size w w':=by
 by_cases hlim:limit<1\/200<limit
 .have hc:gX s.data.toList limit=.inl (2,0):=by unfold gX;rw[Zi hlim]
  rw[hc];exact D4 w s limit hlim
 .have h1:¬ limit<1:=λh=>hlim (.inl h)
  have h2:¬ 200<limit:=λh=>hlim (.inr h)
  have v:s.data.toList.length=s.size:=χ;unfold gX;rw[Zh hlim,v]
  by_cases h200:200<s.size
  .rw[Zi h200];refine ot w s limit h1 h2 4 0 rfl (λW _=>(Sx.yy s W hs h200).mono ?_);rintro e w' ⟨rfl,rfl⟩;exact⟨rfl,ZB⟩
  .rw[Zh h200];have d:s.size<=200:=ω
   cases hR:Sx.cz s.data.toList with
   |bad r'=>
    refine ot w s limit h1 h2 3 _ rfl (Hm w s d (λa b h=>?_));rcases Sx.rS _ _ _ h with q|⟨_,r2,q,rfl,rfl⟩|⟨_,q,hq,_⟩|⟨_,q,hq,_⟩
    .omega
    .rw[hR] at q;injection q with q;subst q;rw[v];exact⟨rfl,rfl⟩
    .rw[hR] at hq;cases hq
    .rw[hR] at hq;cases hq
   |ok p r'=>
    obtain rfl:=Sx.me hR
    simp only
    by_cases hn:20<Sx.aZ p.choices
    .rw[Zi hn];refine ot w s limit h1 h2 4 0 rfl (Hm w s d (λa b h=>?_));rcases Sx.rS _ _ _ h with q|⟨_,r2,q,_⟩|⟨_,q,hq,_,rfl,rfl⟩|⟨_,q,hq,hn,_⟩
     .omega
     .rw[hR] at q;cases q
     .exact⟨rfl,rfl⟩
     .rw[hR] at hq;injection hq with e _;subst e;omega
    .rw[Zh hn];obtain⟨n,rfl⟩:∃ n:Nat,limit=n:=⟨limit.toNat,ω⟩
     have hl:1<=n/\n<=200:=ω;rw[Int.toNat_natCast]
     have l:K4 w s 0 0:=Hm w s d (λa b h=>by
      rcases Sx.rS _ _ _ h with q|⟨_,r2,q,_⟩|⟨_,q,hq,hn,_⟩|⟨_,q,hq,hn,rfl,rfl⟩
      .omega
      .rw[hR] at q;cases q
      .rw[hR] at hq;injection hq with e _;subst e;omega
      .exact⟨rfl,rfl⟩)
     have f:L0 s p.front p.back (dp p.choices):=λW=>Sx.Jo W s d p hR
     have hT:=yj hR;have h0:=Hn hR;obtain⟨hc,hk,hb⟩:=AP hR ω hT;have k:L2 (dp p.choices) (bO (dp p.choices)):=λW g hr=>mU _ hc W g hr
     by_cases h64:64<bO (dp p.choices)
     .have hM:jX p n=none:=by
       have:=(nX h0 hT).1;unfold jX bS;rw[Zi ω];rfl
      rw[hM];exact AT w s n h1 h2 p.front p.back _ _ h64 l f k
     .have c:bO (dp p.choices)<=64:=ω;rcases yt h0 hT c hl.1 hl.2 rfl with⟨e1,e2⟩|⟨x,t,nA,e1,e2,y,hF,hL,m⟩
      .have hM:jX p n=none:=by unfold jX;rw[e2];rfl
       rw[hM];refine AU w s n h1 h2 p.front p.back _ _ _ h64 l f k (JV hl h0 hT hc hk c (hb c) ?_);rintro W W' e ⟨j,⟨_,q⟩|⟨X,va,vn,bx,q,_⟩⟩
       .exact⟨q,j⟩
       .rw[e1] at q;cases q
      .have hM:jX p n=some (fm (aG t)):=by unfold jX;rw[e2];rfl
       rw[hM];obtain⟨S,hS⟩:=zx (pn (dY (dp p.choices) ⟨[],[]⟩).2 (dY (dp p.choices) ⟨[],[]⟩).1 p.front);have z:S.sets.length<=64:=by
        obtain⟨q1,q2⟩:=rQ h0 hT c p.front;rw[hS,q1.l];omega
       have o:S.front=p.front:=by rw[hS];rfl
       rw[<-hS] at e1 hF hL
       have u:=JV (SP:=Ms nA (λi=>x.1.getD i []) (nx (gh S p.back x))) hl h0 hT hc hk c (hb c) (by
        rw[<-hS];rintro W W' e ⟨j,⟨q,_⟩|⟨X,va,vn,bx,q,rfl,A⟩⟩
        .rw[e1] at q;cases q
        .rw[e1] at q;injection q with q;subst q
         exact LQ hF m A j)
       have B:=LR hF y m;have ht:fm (aG t)=⟨p.front,p.back,0,(aG (gh S p.back x)).cls.map UInt8.ofNat,(aG (gh S p.back x)).acc,(aG (gh S p.back x)).next.map λr=>r.map Int.ofNat⟩:=by
        rw[<-hL];obtain⟨q1,q2⟩:=yu (gh S p.back x);unfold fm;rw[q1,q2];simp only[gh,o]
       rw[<-o] at u f ht;rw[ht];refine(AV w s n h1 h2 S.front p.back _ _ _ h64 nA hF.ok.n1 y (λi=>x.1.getD i []) S.sets.length z (λi hi=>KZ e1 _ (by rw[getD_at ω];exact Zg _)) (nx (gh S p.back x)) _ _ _ l f k u B).mono ?_;rintro e w' ⟨va,vn,q1,q2,q3⟩;exact⟨⟨va,vn,q1,q2⟩,q3⟩
theorem Ek (s:List UInt8) (limit:Int):∀ x,gX s limit=.inl x->(x.1==0)=false:=by grind [gX]
def yF (s:List UInt8) (limit:Int):∀ t,gX s limit=.inr t->qn t:=by
 intro t h;unfold gX at h
 split at h
 .cases h
 .rename_i a
  split at h
  .cases h
  .split at h
   .cases h
   .split at h
    .cases h
    .split at h
     .cases h
     .rename_i p _ _ _ _ t' ht;injection h with h;subst h;unfold jX at ht
      cases hM:bS p limit.toNat with
      |none=>rw[hM] at ht;cases ht
      |some T=>
       rw[hM] at ht;injection ht with ht;subst ht;obtain⟨n,k,h1,h2,h3⟩:=ui ω hM;exact(oW h3 ω h2).2
abbrev MH (w:World):Prop:=Calls prog 13 #[] w λe w'=>e=.returned (.bool true)/\Below w.heap.size w w'
variable (w s) in
def yG (limit a b:Int) (ha:(a==0)=false) (hf:MH w) (hc:∀ W,Below w.heap.size w W->Calls prog 14 #[.string s,.int .i64 limit] W λe w'=>e=.returned (.tuple #[.pointer none,.int .i64 a,.int .i64 b])/\Below W.heap.size W w') (hr:∀ W,Calls prog 15 #[.string s,.int .i64 limit] W λe w'=>e=.returned (.tuple #[zT,.int .i64 a,.int .i64 b])/\Below W.heap.size W w') :
  Calls prog 5 #[.string s,.int .i64 limit] w λe w'=>e=.returned (.bool true)/\Below w.heap.size w w':=by
 have HF:=zh hf;have HC:=zh hc;have HR:=zh hr;have j:(a != 0)=true:=by simpa using ha
 go_enter func5,ntmps5
 go_wp2_with (first|(go_at_call 15;refine(HR _).mono ?_;rintro e w3 ⟨rfl,i⟩;have d:=zh (f.trans (i.mono f.size)))|(go_at_call 14;refine(HC _ c).mono ?_;rintro e w2 ⟨rfl,g⟩;have f:=zh (c.trans (g.mono c.size)))|(go_at_call 13;refine HF.mono ?_;rintro e w1 ⟨rfl,h⟩;have c:=zh h))
 go_ret
 exact⟨rfl,d.alloc d.size _⟩
variable (w s limit) in
def vY (t:Tb) (hsm:qn t) (hf:MH w) (hc:∀ W,Below w.heap.size w W->Calls prog 14 #[.string s,.int .i64 limit] W λe w'=>∃ m c,e=.returned (.tuple #[.pointer (some ⟨m,0,none⟩),.int .i64 0,.int .i64 0])/\Ag w' m t c/\Below W.heap.size W w') (hr:∀ W,Calls prog 15 #[.string s,.int .i64 limit] W λe w'=>∃ va vn,e=.returned (.tuple #[tv t va vn,.int .i64 0,.int .i64 0])/\cJ w' t va vn/\Below W.heap.size W w') :
  Calls prog 5 #[.string s,.int .i64 limit] w λe w'=>e=.returned (.bool true)/\Below w.heap.size w w':=by
 have HF:=zh hf;have HC:=zh hc;have HR:Hid (∀ W,Calls prog 15 #[.string s,.int .i64 limit] W λe w'=>∃ aa ca an cn,e=.returned (.tuple #[tv t (.slice aa t.acc.length ca) (.slice an t.next.length cn),.int .i64 0,.int .i64 0])/\cJ w' t (.slice aa t.acc.length ca) (.slice an t.next.length cn)/\Below W.heap.size W w'):=λW=>by
  refine(hr W).mono ?_;rintro e w' ⟨va,vn,rfl,ht,hb⟩;obtain⟨aa,ca,an,n2,cn,e1,e2⟩:=ht.shapes;have c0:n2=t.next.length:=by
   obtain⟨us,h1,h2,-⟩:=ht.next;obtain⟨a,c,e⟩:=h2.form;rw[e2] at e;injection e with _ e _;omega
  subst e1 e2 c0;exact⟨aa,ca,an,cn,rfl,ht,hb⟩
 have b5:Hid (∀ W va vn va' vn',cJ W t va vn->cJ W t va' vn'->Calls prog 17 #[tv t va vn,tv t va' vn'] W λe w'=>e=.returned (.bool true)/\Below W.heap.size W w'):=λW va vn va' vn' h h'=>F7 W t va vn va' vn' h h' hsm
 obtain⟨la,C⟩:=zx t.acc.length;obtain⟨ln,y⟩:=zx t.next.length;have P:Hid (∀ W m c,Ag W m t c->Calls prog 16 #[.pointer (some ⟨m,0,none⟩)] W λe w'=>∃ tA tB gs,e=.returned (.tuple #[tv t (.slice (some ⟨tA,0,none⟩) la la) (.slice (some ⟨tB,0,none⟩) ln ln),.int .i64 0])/\i_ W.heap.size w' t tA tB gs/\cJ w' t (.slice (some ⟨tA,0,none⟩) la la) (.slice (some ⟨tB,0,none⟩) ln ln)/\Below W.heap.size W w'):=λW m c h=>by
  refine(qQ W m t c h).mono ?_;rintro e w' ⟨tA,tB,gs,rfl,h1,h2⟩;rw[C,y];exact⟨tA,tB,gs,rfl,h1,h1.tab,h2⟩
 have a1:Hid (∀ W c tA tB gs lo g,lo<=g->W.heap[g]?=some BT->W.heap.size=g+1->tA<g->tB<g->(∀ q∈gs,q<g)->i_ lo W t tA tB gs->jf t c->Calls prog 18 #[.pointer (some ⟨g,0,none⟩),tv t (.slice (some ⟨tA,0,none⟩) la la) (.slice (some ⟨tB,0,none⟩) ln ln)] W λe w'=>e=.returned (.tuple #[])/\Below lo W w'/\∀ w2,Below w'.heap.size w' w2->Calls prog 19 #[.pointer (some ⟨g,0,none⟩)] w2 λe w3=>e=.returned (.bool true)/\Below w2.heap.size w2 w3):=λW c tA tB gs lo g h1 h2 h3 h4 h5 h6 h7 h8=>by
  rw[C,y];exact DE W t c tA tB gs lo g h1 h2 h3 h4 h5 h6 h7 h8
 rw[<-C,<-y] at HR;clear hf hc hr hsm C y
 go_enter func5,ntmps5
 go_upto_region 4 with(first|(go_at_call 15;refine(HR _).mono ?_;rintro e w3 ⟨aa,ca,an,cn,rfl,a3,J⟩;have U:=zh a3;have b0:=zh (a8.below J);have K:=zh (I.trans (J.mono I.size));clear J a3)|(go_at_call 14;refine(HC _ D).mono ?_;rintro e w2 ⟨m,c,rfl,hm,V⟩;have a8:=zh hm;have I:=zh (D.trans (V.mono D.size));clear V hm)|(go_at_call 13;refine HF.mono ?_;rintro e w1 ⟨rfl,b4⟩;have D:=zh b4;clear b4))
 clear HF HC HR D I a8;obtain⟨R,hR⟩:=zx w3.heap.size;obtain⟨W3,E⟩:=zx (w3.alloc (.cells #[.bool t.front,.bool t.back,.int .i64 t.start,.string (ba t.cls),.slice aa la ca,.slice an ln cn] 33));have d:Below w3.heap.size w3 W3:=by rw[E];exact ZA
 have X:Hid (∀ W,Below W3.heap.size W3 W->W.heap[R]?=some (.cells #[.bool t.front,.bool t.back,.int .i64 t.start,.string (ba t.cls),.slice aa la ca,.slice an ln cn] 33)):=λW b=>by
  have h1:W3.heap[R]?=some (.cells #[.bool t.front,.bool t.back,.int .i64 t.start,.string (ba t.cls),.slice aa la ca,.slice an ln cn] 33):=by rw[E,hR];exact Za w3 _
  exact(b.block R (ZC h1)).trans h1
 have j:Hid (Ag W3 m t c/\cJ W3 t (.slice aa la ca) (.slice an ln cn)/\Below w.heap.size w W3):=⟨b0.below d,U.below d,K.trans (d.mono K.size)⟩
 rw[<-E,<-hR];clear E hR d b0 U K
 go_upto_region 9 with(go_at_call 16;refine(P _ _ _ j.1).mono ?_;rintro e w4 ⟨tA,tB,gs,rfl,a5,b1,b3⟩;have o:Hid (i_ W3.heap.size w4 t tA tB gs/\cJ w4 t (.slice (some ⟨tA,0,none⟩) la la) (.slice (some ⟨tB,0,none⟩) ln ln)/\Below W3.heap.size W3 w4):=⟨a5,b1,b3⟩;clear a5 b1 b3)
 obtain⟨R4,L⟩:=zx w4.heap.size;obtain⟨W4,z⟩:=zx (w4.alloc (.cells #[.bool t.front,.bool t.back,.int .i64 t.start,.string (ba t.cls),.slice (some ⟨tA,0,none⟩) la la,.slice (some ⟨tB,0,none⟩) ln ln] 33));have d:Below w4.heap.size w4 W4:=by rw[z];exact ZA
 have v:W4.heap[R4]?=some (.cells #[.bool t.front,.bool t.back,.int .i64 t.start,.string (ba t.cls),.slice (some ⟨tA,0,none⟩) la la,.slice (some ⟨tB,0,none⟩) ln ln] 33):=by rw[z,L];exact Za w4 _
 have a4:=zh v;have u:=o.2.2.trans (d.mono o.2.2.size);have f:Hid (i_ W3.heap.size W4 t tA tB gs/\cJ W4 t (.slice (some ⟨tA,0,none⟩) la la) (.slice (some ⟨tB,0,none⟩) ln ln)/\Below W3.heap.size W3 W4/\R4<W4.heap.size):=⟨o.1.below d,o.2.1.below d,u,(ZC v)⟩
 obtain⟨x0,x1,x2,x3,x4,x5⟩:=dH v;obtain⟨y0,y1,y2,y3,y4,y5⟩:=dH (X W4 u);rw[<-z,<-L];clear z L d o u v
 go_upto_region 10 with(go_at_call 17;refine(b5 _ _ _ _ _ f.2.1 (j.2.1.below f.2.2.1)).mono ?_;rintro e w5 ⟨rfl,a9⟩;have F:=zh a9;clear a9)
 clear x0 x1 x2 x3 x4 x5 y0 y1 y2 y3 y4 y5
 go_upto_region 11 with(fail)
 obtain⟨g,hg⟩:=zx w5.heap.size;obtain⟨W5,r⟩:=zx (w5.alloc (.cells #[.int .i64 0,.slice none 0 0,.slice none 0 0,.slice none 0 0,.slice none 0 0,.slice none 0 0,.slice none 0 0] 44));have k:Below W4.heap.size W4 W5:=by
  have:=fN w5 BT;rw[<-r] at this;exact F.trans (this.mono F.size)
 have a7:Hid (Calls prog 18 #[.pointer (some ⟨g,0,none⟩),tv t (.slice (some ⟨tA,0,none⟩) la la) (.slice (some ⟨tB,0,none⟩) ln ln)] W5 λe w'=>e=.returned (.tuple #[])/\Below W3.heap.size W5 w'/\∀ w2,Below w'.heap.size w' w2->Calls prog 19 #[.pointer (some ⟨g,0,none⟩)] w2 λe w3=>e=.returned (.bool true)/\Below w2.heap.size w2 w3):=by
  obtain⟨_,_,_,b6⟩:=j.1;obtain⟨o1,o2,o3,o4,o5,o6⟩:=f.1.o;have z1:=f.2.2.1.size;have z2:=F.size;refine a1 W5 c tA tB gs W3.heap.size g ω ?_ (by rw[r,hg];simp) ω ω (λq hq=>?_) (f.1.below k) b6
  .rw[r,hg];exact Za w5 _
  .obtain⟨i,hi,rfl⟩:=mem_iff_getElem.1 hq;have:=(f.1.rows i hi).2.2;omega
 obtain⟨x0,x1,x2,x3,x4,x5⟩:=dH ((k.block R4 f.2.2.2).trans a4);have G:=zh (f.2.2.1.trans (k.mono f.2.2.1.size));rw[<-r,<-hg];clear r hg k F a4 f a1
 go_upto_region 12 with(go_at_call 18;refine a7.mono ?_;rintro e w6 ⟨rfl,Z,Q⟩;have H:=zh (G.trans Z);have b9:=zh Q;clear Z Q)
 clear x0 x1 x2 x3 x4 x5 a7 G
 go_upto_region 13 with(go_at_call 16;refine(P _ _ _ (j.1.below H)).mono ?_;rintro e w7 ⟨tC,tD,c2,rfl,c1,a6,b2⟩;have B:Hid (cJ w7 t (.slice (some ⟨tC,0,none⟩) la la) (.slice (some ⟨tD,0,none⟩) ln ln)/\Below w6.heap.size w6 w7):=⟨a6,b2⟩;clear c1 a6 b2)
 obtain⟨R7,M⟩:=zx w7.heap.size;obtain⟨W7,A⟩:=zx (w7.alloc (.cells #[.bool t.front,.bool t.back,.int .i64 t.start,.string (ba t.cls),.slice (some ⟨tC,0,none⟩) la la,.slice (some ⟨tD,0,none⟩) ln ln] 33));have d:Below w7.heap.size w7 W7:=by rw[A];exact ZA
 have a2:W7.heap[R7]?=some (.cells #[.bool t.front,.bool t.back,.int .i64 t.start,.string (ba t.cls),.slice (some ⟨tC,0,none⟩) la la,.slice (some ⟨tD,0,none⟩) ln ln] 33):=by rw[A,M];exact Za w7 _
 have n:=B.2.trans (d.mono B.2.size);have p:=H.trans (n.mono H.size);have l:Hid (cJ W7 t (.slice (some ⟨tC,0,none⟩) la la) (.slice (some ⟨tD,0,none⟩) ln ln)/\Below w6.heap.size w6 W7/\Below W3.heap.size W3 W7):=⟨B.1.below d,n,p⟩
 obtain⟨x0,x1,x2,x3,x4,x5⟩:=dH a2;obtain⟨y0,y1,y2,y3,y4,y5⟩:=dH (X W7 p);rw[<-A,<-M];clear A M d B n p a2
 go_upto_region 14 with(go_at_call 17;refine(b5 _ _ _ _ _ l.1 (j.2.1.below l.2.2)).mono ?_;rintro e w8 ⟨rfl,N⟩;have Y:=zh N;clear N)
 clear x0 x1 x2 x3 x4 x5 y0 y1 y2 y3 y4 y5;go_wp2_with (go_at_call 19;refine(b9 w8 (l.2.1.trans (Y.mono l.2.1.size))).mono ?_;rintro e w9 ⟨rfl,T⟩;have b7:=zh T;clear T)
 go_ret
 have O:=l.2.2.trans (Y.mono l.2.2.size);have b8:=O.trans (b7.mono O.size);exact⟨rfl,j.2.2.trans (b8.mono j.2.2.size)⟩
variable (w s limit) in
def vZ (hS:Sx.iV w) (hT:TabZ w) (hs:s.size<=maxLen) :
  Calls prog 5 #[.string s,.int .i64 limit] w λe w'=>e=.returned (.bool true)/\Below w.heap.size w w':=by
 have hc:∀ W,Below w.heap.size w W->Calls prog 14 #[.string s,.int .i64 limit] W λe w'=>Cf W w' (gX s.data.toList limit) e/\Below W.heap.size W w':=λW hb=>yl W s limit (hS.of_block (λk hk=>hb.block k (η hS.lt))) (hT.keep (hb.block 1 hT.lt)) hs
 have hr:=λW=>Ej W s limit hs
 have hz:=Ek s.data.toList limit;have b:=yF s.data.toList limit;generalize gX s.data.toList limit=r at hc hr hz b
 cases r with
 |inl x=>
  refine yG w s limit x.1 x.2 (hz x rfl) (uj w hS hT) hc hr
 |inr t=>
  refine vY w s limit t (b t rfl) (uj w hS hT) (λW hb=>(hc W hb).mono ?_) (λW=>(hr W).mono ?_)
  .rintro e w' ⟨⟨m,c,h1,h2,-⟩,a⟩;exact⟨m,c,h1,h2 _ (Hi.refl _ _),a⟩
  .rintro e w' ⟨⟨va,vn,h1,h2⟩,a⟩;exact⟨va,vn,h1,h2 _ (Hi.refl _ _),a⟩
end Go.Proofs.YtbjabpodkaokjaaGreatDoor
