import Derived.Test.YtbjabpodkaokjaaGreatDoorCC35
set_option linter.all false
set_option maxHeartbeats 4000000
set_option maxRecDepth 100000
open List Nat Go.World Go.Proofs.Tryz
namespace Go.Proofs.YtbjabpodkaokjaaGreatDoor.Sx
open Go.RowKit
variable {x:World}{v:Value}{vs:List Value}{y:World}{ts:List RT}{B g:Nat}{t:RT}{kind:Int}{p:sT}{z:World}{v':Value}{o:Obj}{m:Nat}{u:Value}{n0:Nat}{w:World}{b:Nat}{s:ByteArray}{r:List UInt8}{n:Nat}{c:UInt8}{l r':List UInt8}{T:RT}{ps:List aO}{cs:List (List aO)}
def Tryz.infoPT:(prog.info? 100).map (λi=>(i.zero,i.size,i.bytes))=some (some (.pointer none),1,8):=κ
def Eg (a:Act):prog.built 187 ((#[(0,.const (.int .i64 1))]:Array (Nat×Operand)).map λ(i,x)=>(i,a.eval x)).toList=some (tA 1 (λ_=>false) (.slice none 0 0) 0 0 0):=by
 have:((#[(0,.const (.int .i64 1))]:Array (Nat×Operand)).map λ(i,x)=>(i,a.eval x)).toList=[(0,.int .i64 1)]:=by simp[Act.eval]
 rw[this];exact E9
def Eh (a:Act):prog.built 187 ((#[(0,.const (.int .i64 2))]:Array (Nat×Operand)).map λ(i,x)=>(i,a.eval x)).toList=some (tA 2 (λ_=>false) (.slice none 0 0) 0 0 0):=by
 have:((#[(0,.const (.int .i64 2))]:Array (Nat×Operand)).map λ(i,x)=>(i,a.eval x)).toList=[(0,.int .i64 2)]:=by simp[Act.eval]
 rw[this];exact E_
def Hh 
  (hrep:bQ x (λg=>dn B x g/\v.ownBlock≠some g) ts vs) (hp:aV y (dn x.heap.size y) t g) (hBx:B<=x.heap.size)
  (h1:∀ k,B<=k->k<x.heap.size->y.heap[k]?=x.heap[k]?) (h2:∀ k,B<=k->k<y.heap.size->v.ownBlock≠some k->z.heap[k]?=y.heap[k]?) (s1:x.heap.size<=y.heap.size) (s2:y.heap.size<=z.heap.size)
  (hown:∀ k,v.ownBlock=some k->k<x.heap.size) (hob:v'.ownBlock=v.ownBlock\/∃ k,v'.ownBlock=some k/\y.heap.size<=k) :
  bQ z (λg=>dn B z g/\v'.ownBlock≠some g) (ts++[t]) (vs++[.pointer (some ⟨g,0,none⟩)]):=by
 refine bQ.snoc (aV.of_heap (λk hk hlt=>?_) t g hp) (bQ.of_heap (λk hk hlt=>?_) ts vs hrep)
 .have a:=hk.1;have ne:v.ownBlock≠some k:=λe=>by have:=hown k e;omega
  refine⟨⟨⟨ω,ω⟩,?_⟩,h2 k ω hlt ne⟩;rcases hob with e|⟨j,e,hj⟩<;>rw[e]
  .exact ne
  .intro q;injection q with q;omega
 .obtain⟨a,d⟩:=hk;refine⟨⟨⟨a.1,ω⟩,?_⟩,(h2 k a.1 ω d).trans (h1 k a.1 hlt)⟩;rcases hob with e|⟨j,e,hj⟩<;>rw[e]
  .exact d
  .intro q;injection q with q;have:=a.2;omega
structure dS (w x:World) (b:Nat) (s:ByteArray) (kind:Int) (ts:List RT) (vs:List Value) (v:Value) (r:List UInt8):Prop where
 pl:Mk x b s r
 rd:Rd b w x
 tr:Tr x w.heap.size kind (λ_=>false) v 0 0 0
 own:x.ownsRow (w.heap.size+1) 100 1 v ts.length vs
 rep:bQ x (λg=>dn (w.heap.size+1) x g/\v.ownBlock≠some g) ts vs
 len:ts.length+r.length<=201
def dS.next {w x y z z':World}{r r1:List UInt8} (h:dS w x b s kind ts vs v r) (hlt:b<w.heap.size) (o:Obj)
  (g3:Mk y b s r1) (l3:Rd b x y) (t3:aV y (dn x.heap.size y) t g) (hown:z.ownsRow (w.heap.size+1) 100 1 v' (ts.length+1) (vs++[.pointer (some ⟨g,0,none⟩)])) (hgr:(y.alloc o).grownBy z v.ownBlock) (hob:v'.ownBlock=v.ownBlock\/v'.ownBlock=some (y.alloc o).heap.size) (hl:ts.length+1+r1.length<=201)
  (hz:z.setCell ⟨w.heap.size,257,none⟩ v'=z'):dS w z' b s kind (ts++[t]) (vs++[.pointer (some ⟨g,0,none⟩)]) v' r1:=by
 obtain⟨pl,rd,tr,j,i,q⟩:=h;have f:=tr.lt;have a:∀ k,v.ownBlock=some k->w.heap.size+1<=k/\k<x.heap.size:=λk hk=>j.lt k hk
 have sx:=l3.size;have sz:=hgr.size;simp at sz;subst hz;have d:∀ k,k<y.heap.size->v.ownBlock≠some k->k≠w.heap.size->(z.setCell ⟨w.heap.size,257,none⟩ v').heap[k]?=y.heap[k]?:=λk hk hne hkN=>
  (Zf _ _ _ _ (by simpa using hkN)).trans ((hgr.block k σ (λe=>hne e.symm)).trans (Ze _ _ _ hk))
 have A:(z.setCell ⟨w.heap.size,257,none⟩ v').heap.size=z.heap.size:=by simp[World.setCell]
 refine⟨?_,?_,?_,?_,?_,σ⟩
 .exact g3.keep (d b ω (λe=>by have:=(a b e).1;omega) ω) ω
 .have hr:=rd.trans l3;exact⟨hgr.os.trans hr.os,hgr.tape.trans hr.tape,hgr.output.trans hr.output,by have:=hr.size;omega,λk hk hkb=>(d k (η hr.size) (λe=>by have:=(a k e).1;omega) ω).trans (hr.block k hk hkb)⟩
 .have t4:=(tr.of_heap (l3.block _ f ω)).of_heap ((hgr.block _ σ (λe=>by have:=(a _ e.symm).1;omega)).trans (Ze _ _ _ ω));exact t4.kids v'
 .have:=bu (b:=w.heap.size) hown ((Rd.refl w.heap.size z).setCell 257 v') ω
  simpa using this
 .refine Hh (y:=y) i t3 ω (λk hk hkx=>l3.block k hkx ω) (λk hk hky hne=>d k hky hne ω) sx ω (λk hk=>(a k hk).2) ?_;rcases hob with e|e
  .exact .inl e
  .exact .inr ⟨_,e,χ⟩
def sa (h:ci r=true):gY r=false:=by
 match r,h with
 |c::t,h=>
  simp only[gY];have ne:∀ k:UInt8,ci [k]=false->c≠k:=by
   intro k hk e;subst e;simp only[ci] at h hk;rw[hk] at h;simp at h
  have a:=ne 124 Zr;have b:=ne 41 Zr;have d:=ne 36 Zr;simp[a,b,d]
abbrev Cm (b:Nat) (s:ByteArray) (r r':List UInt8) (T:RT):Prop:=∀ w,Mk w b s r->Calls prog 190 #[.pointer (some ⟨b,0,none⟩)] w λe w'=>fd w w' b s r' T e
abbrev Jn (b:Nat) (s:ByteArray) (r:List UInt8) (o:Bool):Prop:=∀ w,Mk w b s r->Calls prog 189 #[.pointer (some ⟨b,0,none⟩)] w λe w'=>e=.returned (.bool o)/\EF w w' b s r
def vX (h:bB m r=.ok ps r') :
  (ci r=false/\ps=[]/\r'=r)\/(∃ m' p r1 a,m=m'+1/\ci r=true/\dA m' r=.ok p r1/\bB m' r1=.ok a r'/\ps=p::a/\r1.length<r.length):=by
 cases m with
 |zero=>simp[bB] at h
 |succ m=>
  simp only[bB] at h
  split at h
  .rename_i hb
   split at h
   .simp at h
   .rename_i p r1 h1
    split at h
    .rename_i a r2 h2;injection h with e1 e2;subst e1;subst e2;exact .inr ⟨m,p,r1,a,rfl,hb,h1,h2,rfl,by have:=(Cr m).2.2.1 _ _ _ h1;omega⟩
    .simp at h
  .rename_i hb;injection h with e1 e2;subst e1;subst e2;exact .inl ⟨by simpa using hb,rfl,rfl⟩
def sc {S:Nat->Prop} (h:bQ x S [t] vs):∃ g,vs=[.pointer (some ⟨g,0,none⟩)]/\aV x S t g:=by
 simp only[bQ] at h;obtain⟨g,a,rfl,h1,rfl⟩:=h;exact⟨g,rfl,h1⟩
def Cn {e:TypeId} (h:x.ownsRow B e 1 v 1 [u]):∃ g a,v=.slice (some ⟨g,0,none⟩) 1 a/\x.cell? ⟨g,0,none⟩=some u:=by
 obtain⟨h1,h2⟩:=h;rcases h2 with⟨h2,h3⟩|⟨g,a,d,hv,hg,hh,hn,hc,hs,ht⟩
 .omega
 .refine⟨g,a,hv,?_⟩;simp[cell?,hh];have:d.toList[0]?=some u:=by
   have:(d.toList.take (1*1))[0]?=some u:=by rw[ht];rfl
   simpa using this
  simpa using this
def Co {e:TypeId} (h:x.ownsRow B e 1 v n vs):∃ g0 a,v=.slice g0 n a:=by
 obtain⟨h1,h2⟩:=h;rcases h2 with⟨h2,h3⟩|⟨g,a,d,hv,_⟩
 .exact⟨none,0,by rw[h2,h3]⟩
 .exact⟨_,a,hv⟩
def dS.done {kind:Nat} (h:dS w x b s kind ts vs v r) (hlt:b<w.heap.size) (hl:Below x.heap.size x y) (hn:ts.length≠1):aV y (dn w.heap.size y) (jR kind ts) w.heap.size:=by
 obtain⟨pl,rd,tr,f,d,i⟩:=h;have e:jR kind ts=.node kind ts:=by
  match ts,hn with
  |[],_=>rfl
  |[t],hn=>simp at hn
  |_::_::_,_=>rfl
 rw[e];have a:=tr.of_heap (hl.block _ tr.lt);simp only[aV];refine⟨⟨zq,a.lt⟩,_,v,0,0,0,a,vs,?_,?_⟩
 .exact(db.of_owns f).of_heap (λg hg hlt'=>⟨⟨ω,Zd hlt' hl.size⟩,hl.block g hlt'⟩)
 .exact bQ.of_heap (λg hg hlt'=>⟨⟨by have:=hg.1.1;omega,Zd hlt' hl.size⟩,hl.block g hlt'⟩) ts vs d
theorem dS.below (h:dS w x b s kind ts vs v r) (hlt:b<w.heap.size) (l:Below x.heap.size x y):dS w y b s kind ts vs v r:=by
 obtain⟨pl,rd,tr,d,a,e⟩:=h;exact⟨pl.below l,rd.trans (Rd.of_below l),tr.of_heap (l.block _ tr.lt),bu d (Rd.of_below l (b:=b)) ω,bQ.of_heap (λg hg hlt'=>⟨⟨⟨hg.1.1,Zd hlt' l.size⟩,hg.2⟩,l.block g hlt'⟩) ts vs a,e⟩
def cell_below (l:Below x.heap.size x y) (h:x.cell? ⟨g,0,none⟩=some u):y.cell? ⟨g,0,none⟩=some u:=by
 have hg:g<x.heap.size:=by
  rcases Nat.lt_or_ge g x.heap.size with q|q
  .exact q
  .simp[cell?,Array.getElem?_eq_none q] at h
 have e:=l.block g hg;simp[cell?,e] at h ⊢;exact h
variable (n0 w b s r r' ps) in
def Hj (h:Mk w b s r) (hP:bB n0 r=.ok ps r') (ho:gY r'=true) (hK:∀ m r r' p,m<n0->ci r=true->dA m r=.ok p r'->Cm b s r r' (rP p)) :
  Calls prog 154 #[.pointer (some ⟨b,0,none⟩)] w λe w'=>fd w w' b s r' (rC ps) e:=by
 have A:=h.lt;obtain⟨i0,hi,M,U,Q⟩:=info_parts Tryz.infoPT;have G:∀ r o,gY r=o->Jn b s r o:=λr o e w h=>by rw[<-e];exact G_ w b s r h
 have HK:=zh hK
 go_enter func154,ntmps154
 go_wp2_with (first|(refine wpList_buildTo rfl 187 #[(0,.const (.int .i64 1))] rfl _ rfl (tA 1 (λ_=>false) (.slice none 0 0) 0 0 0) (Eg _) ?_)|(refine Great.wpList_boxTo rfl 187 (.tmp 6) rfl _ rfl w.heap.size rfl (tA 1 (λ_=>false) (.slice none 0 0) 0 0 0) rfl ?_;generalize q:World.alloc w _=w1;have t1:=rZ q rfl;have r1:Rd b w w1:=(by rw[<-q];exact(Rd.refl _ _).alloc _);have g1:Mk w1 b s r:=(by rw[<-q];exact h.alloc _)))
 go_loopw [] (λwq=>∃(m:Nat) (a C:List aO) (vs:List Value) (v:Value) (rr:List UInt8),m<=n0/\dS w wq b s 1 (fO a) vs v rr/\bB m rr=.ok C r'/\a++C=ps) (λwq=>leftOf b s wq)
 case atStart=>exact⟨n0,[],ps,[],.slice none 0 0,r,zq,⟨g1,r1,t1,Zn _ _ _ _,by simp[bQ,fO],by have:=h.len;simp[fO];omega⟩,hP,rfl⟩
 case round=>
  obtain⟨m,a,C,vs,v,rr,a1,E,W,H⟩:=hrel;rcases vX W with⟨hb,rfl,rfl⟩|⟨m',p,r2,i,rfl,hb,hp,P,rfl,hl⟩
  .have f:=G r' true ho;have HA:=zh E;have HP:Hid (a=ps):=by show _=_;simpa using H
   obtain⟨g0,a3,hv⟩:=Co HA.own;subst hv;rw[mH] at *
   by_cases h1:a.length=1
   .have L:((a.length:Int)==1)=true:=σ;obtain⟨p0,rfl⟩:∃ p0,a=[p0]:=by
     match a,h1 with
     |[p0],_=>exact⟨p0,rfl⟩
    obtain⟨g,rfl,hT⟩:=sc (by have:=HA.rep;simpa only [fO] using this);have HT:Hid _:=hT;obtain⟨g9,Y,V,O⟩:=Cn (by have:=HA.own;simpa only [fO,length_singleton] using this);injection V with e1 _ _;subst e1;go_wp2_with (go_at_call 189;refine(f _ HA.pl).mono ?_;rintro e w2 ⟨rfl,g2,l2⟩;have t2:=HA.tr.of_heap (l2.block _ HA.tr.lt);have k:=t2;obtain⟨u0,uB,uk,um,ux,us,uf⟩:=k;have Z:=cell_below l2 O)
    go_ret
    refine⟨g,rfl,⟨g2,HA.rd.trans (Rd.of_below l2)⟩,?_⟩;rw[<-HP.out];simp only[rC];exact aV.of_heap (λj hj hlt'=>⟨⟨by have:=hj.1.1;omega,Zd hlt' l2.size⟩,l2.block j hlt'⟩) _ g HT
   .have L:((a.length:Int)==1)=false:=σ;go_wp2_with (go_at_call 189;refine(f _ HA.pl).mono ?_;rintro e w2 ⟨rfl,g2,l2⟩;have t2:=HA.tr.of_heap (l2.block _ HA.tr.lt);have k:=t2;obtain⟨u0,uB,uk,um,ux,us,uf⟩:=k)
    go_ret
    exact⟨w.heap.size,rfl,⟨g2,HA.rd.trans (Rd.of_below l2)⟩,by rw[<-HP.out,Lg];exact HA.done A l2 (by rw[mH];exact h1)⟩
  .have f:=G rr false (sa hb);have S:=HK m' rr r2 p ω hb hp;have HA:=zh E;have HP:Hid (bB m' r2=.ok i r'/\a++p::i=ps/\m'<=n0):=⟨P,H,ω⟩
   have D:=HA.len;rw[mH] at D;go_wp2_with (first|(at_builtin;refine wpList_append_own_at _ rfl (.tmp 17) (.tmp 19) 185 rfl (w.heap.size+1) 100 i0 (.pointer none) 1 8 underlying185 hi M U Q rfl Zr v (fO a).length vs rfl ((bu (bu HA.own (Rd.of_below l2) (by omega:b<w.heap.size+1)) l3 ω).alloc _) ⟨w3.heap.size,0,none⟩ 1 1 [.pointer (some ⟨g,0,none⟩)] rfl rfl ?c1 ?c2 ?c3 ?c4 ?c5 ?_)|(go_at_call 190;refine(S _ g2).mono ?_;rintro e w3 ⟨g,rfl,⟨g3,l3⟩,t3⟩;have X:Hid _:=t3;have K:=t2.of_heap (l3.block _ t2.lt ω);obtain⟨u0,uB,uk,um,ux,us,uf⟩:=K)|(go_at_call 189;refine(f _ HA.pl).mono ?_;rintro e w2 ⟨rfl,g2,l2⟩;have t2:=HA.tr.of_heap (l2.block _ HA.tr.lt)))
   case c1=>
    intro j u hj
    match j,hj with
    |0,hj=>simp at hj;subst hj;simp[Addr.add,go_sem]
   case c2=>intro u hu;simp at hu;subst hu;rfl
   case c3=>rw[mH];unfold maxLen;omega
   case c4=>rw[mH];omega
   case c5=>have:=t2.lt;have:=l3.size;simp;omega
   intro v' w4 d J _ N;obtain⟨q0,q1,q2,R⟩:=bZ d;subst R;have I:Hid (∀ z',w4.setCell ⟨w.heap.size,257,none⟩ (.slice q0 q1 q2)=z'->dS w z' b s 1 (fO a++[rP p]) (vs++[.pointer (some ⟨g,0,none⟩)]) (.slice q0 q1 q2) r2):=λz' hz=>dS.next (HA.below A l2) A _ g3 l3 X d J (by simpa using N) (η HA.len) hz
   have F:w4.heap[w.heap.size]?=w3.heap[w.heap.size]?:=(J.block _ (by have:=t2.lt;have:=l3.size;simp;omega) (λe=>by have:=(HA.own.lt _ e.symm).1;omega)).trans (Ze _ _ _ (ξ t2.lt l3.size));have u4:w4.cell? ⟨w.heap.size,257,none⟩=some v:=by rw[<-uk];simp[cell?,F]
   have a2:∀ o,w4.frozen? ⟨w.heap.size,o,none⟩=false:=λo=>by rw[<-uf o];simp[frozen?,F]
   go_wp2
   go_roundw
   case rel=>exact⟨m',a++[p],i,_,_,r2,HP.2.2,by rw[zw];simp only[fO];exact I _ rfl,HP.1,by rw[append_assoc];exact HP.2.1⟩
   case measure=>rw[(I.out _ rfl).pl.left,HA.out.pl.left];exact hl
abbrev yD (b:Nat) (s:ByteArray) (r r':List UInt8) (T:RT):Prop:=∀ w,Mk w b s r->Calls prog 154 #[.pointer (some ⟨b,0,none⟩)] w λe w'=>fd w w' b s r' T e
def kZ (h:ay m r=.ok cs r') :
  ∃ m' c r1,m=m'+1/\bB m' r=.ok c r1/\r1.length<=r.length/\((∃ t a,r1=124::t/\ay m' t=.ok a r'/\cs=c::a)\/((∀ t,r1≠124::t)/\cs=[c]/\r'=r1)):=by
 cases m with
 |zero=>simp[ay] at h
 |succ m=>
  simp only[ay] at h
  split at h
  .simp at h
  .rename_i c r1 h1;have hl:=(Cr m).2.1 _ _ _ h1
   split at h
   .rename_i t
    split at h
    .rename_i a r2 h2;injection h with e1 e2;subst e1;subst e2;exact⟨m,c,_,rfl,h1,ω,.inl ⟨t,a,rfl,h2,rfl⟩⟩
    .simp at h
   .rename_i hn;injection h with e1 e2;subst e1;subst e2;exact⟨m,c,r1,rfl,h1,ω,.inr ⟨λt e=>hn t e,rfl,rfl⟩⟩
def dS.more {t:List UInt8} (h:dS w x b s kind ts vs v (c::t)) (hlt:b<w.heap.size) {k:Nat} (hk:k+(c::t).length=s.size):dS w (x.setCell ⟨b,1,none⟩ (.int .i64 ((k:Int)+1))) b s kind ts vs v t:=by
 obtain⟨pl,rd,tr,d,a,e⟩:=h;have hr:Rd b x (x.setCell ⟨b,1,none⟩ (.int .i64 ((k:Int)+1))):=(Rd.refl _ _).setCell _ _;exact⟨pl.next hk,rd.trans hr,tr.far ω _,bu d hr ω,bQ.of_heap (λg hg hlt'=>⟨⟨⟨hg.1.1,Zd hlt' hr.size⟩,hg.2⟩,hr.block g hlt' (η hg.1.1)⟩) ts vs a,by simp at e;omega⟩
variable (n0 w b s r r' cs) in
def A3 (h:Mk w b s r) (hP:ay n0 r=.ok cs r') (ho:gY r'=true) (hK:∀ m r r' ps,m<n0->bB m r=.ok ps r'->gY r'=true->yD b s r r' (rC ps)) :
  Calls prog 87 #[.pointer (some ⟨b,0,none⟩)] w λe w'=>fd w w' b s r' (dp cs) e:=by
 have C:=h.lt;obtain⟨i0,hi,X,a6,a3⟩:=info_parts Tryz.infoPT;have HK:=zh hK;clear hK
 go_enter func87,ntmps87
 go_wp2_with ((first|(refine wpList_buildTo rfl 187 #[(0,.const (.int .i64 2))] rfl _ rfl (tA 2 (λ_=>false) (.slice none 0 0) 0 0 0) (Eh _) ?_)|(refine Great.wpList_boxTo rfl 187 (.tmp 6) rfl _ rfl w.heap.size rfl (tA 2 (λ_=>false) (.slice none 0 0) 0 0 0) rfl ?_;generalize A:World.alloc w _=w1;have t1:=rZ A rfl;have r1:Rd b w w1:=(by rw[<-A];exact(Rd.refl _ _).alloc _);have g1:Mk w1 b s r:=(by rw[<-A];exact h.alloc _);clear A)))
 go_loopw [] (λwq=>∃(m:Nat) (f E:List (List aO)) (vs:List Value) (v:Value) (rr:List UInt8),m<=n0/\dS w wq b s 2 (fE f) vs v rr/\ay m rr=.ok E r'/\f++E=cs/\f.length+rr.length<=200) (λwq=>leftOf b s wq)
 case atStart=>exact⟨n0,[],cs,[],.slice none 0 0,r,zq,⟨g1,r1,t1,Zn _ _ _ _,by simp[bQ,fE],by have:=h.len;simp[fE];omega⟩,hP,rfl,by have:=h.len;simpa using this⟩
 case round=>
  obtain⟨m,f,E,vs,v,rr,a1,K,V,Q,b0⟩:=hrel;clear hP;obtain⟨m',c,G,rfl,hp,M,k⟩:=kZ V;have P:gY G=true:=by
   rcases k with⟨t,_,rfl,_⟩|⟨_,_,rfl⟩
   .simp[gY]
   .exact ho
  have a5:=HK m' rr G c ω hp P;have HA:=zh K;have HC:=zh k;have HP:Hid (f++E=cs/\m'<=n0):=⟨Q,ω⟩
  have hh:=dT;clear K V Q hp a1 k P;go_wp2_with ((first|(at_builtin;refine wpList_append_own_at _ rfl (.tmp 14) (.tmp 16) 185 rfl (w.heap.size+1) 100 i0 (.pointer none) 1 8 underlying185 hi X a6 a3 rfl Zr v (fE f).length vs rfl ((bu HA.own l3 ω).alloc _) ⟨w3.heap.size,0,none⟩ 1 1 [.pointer (some ⟨g,0,none⟩)] rfl rfl ?c1 ?c2 ?c3 ?c4 ?c5 ?_)|(go_at_call 154;refine(a5 _ HA.pl).mono ?_;rintro e w3 ⟨g,rfl,⟨g3,l3⟩,t3⟩;have a9:Hid _:=t3;clear t3;have W:=HA.tr.of_heap (l3.block _ HA.tr.lt ω);obtain⟨u0,uB,uk,um,ux,us,uf⟩:=W)))
  case c1=>
   intro j u hj
   match j,hj with
   |0,hj=>simp at hj;subst hj;simp[Addr.add,go_sem]
  case c2=>intro u hu;simp at hu;subst hu;rfl
  case c3=>rw[mI];unfold maxLen;omega
  case c4=>rw[mI];omega
  case c5=>have:=HA.tr.lt;have:=l3.size;simp;omega
  intro v' w4 i J _ N;obtain⟨q0,q1,q2,a4⟩:=bZ i;subst a4;have D:Hid (∀ z',w4.setCell ⟨w.heap.size,257,none⟩ (.slice q0 q1 q2)=z'->dS w z' b s 2 (fE f++[rC c]) (vs++[.pointer (some ⟨g,0,none⟩)]) (.slice q0 q1 q2) G):=λz' hz=>dS.next HA C _ g3 l3 a9 i J (by simpa using N) (by rw[mI];omega) hz
  have L:w4.heap[w.heap.size]?=w3.heap[w.heap.size]?:=(J.block _ (by have:=HA.tr.lt;have:=l3.size;simp;omega) (λe=>by have:=(HA.own.lt _ e.symm).1;omega)).trans (Ze _ _ _ (ξ HA.tr.lt l3.size));have u4:w4.cell? ⟨w.heap.size,257,none⟩=some v:=by rw[<-uk];simp[cell?,L]
  have b8:∀ o,w4.frozen? ⟨w.heap.size,o,none⟩=false:=λo=>by rw[<-uf o];simp[frozen?,L]
  clear i J N u0 uB uk um ux us uf;rcases HC.out with⟨t,a8,rfl,R,rfl⟩|⟨hn,rfl,rfl⟩
  .have Y:=zh R;have hh:np b s (124::t) 124:=λw h=>dT w b s _ h
   clear R HC;go_wp2_with (go_at_call 86;refine(hh _ (D _ rfl).pl).mono ?_;rintro e w5 ⟨rfl,g5,l5⟩;obtain⟨j,c0,f1,d0,d1,hj,b5,b9,b6⟩:=g5.byte)
   go_roundw
   case rel=>exact⟨m',f++[c],a8,_,_,t,HP.2,by rw[qm];simp only[fE];exact((D _ rfl).below C l5).more C hj,Y,by rw[append_assoc];exact HP.1,by simp at M ⊢;omega⟩
   case measure=>rw[(g5.next hj).left,HA.out.pl.left];simp at M;omega
  .have hh:jN b s r':=λw h=>dT w b s _ h
   have b4:(((wg r').toNat:Int) != 124)=true:=by
    have:wg r'≠124:=by
     match r',hn with
     |[],_=>simp[wg]
     |c'::t',hn=>intro e;simp only[wg] at e;exact hn t' (by rw[e])
    have:=ii this;simp at this ⊢;exact this
   have d:Hid (dS w (w4.setCell ⟨w.heap.size,257,none⟩ (.slice q0 q1 q2)) b s 2 (fE (f++[c])) (vs++[.pointer (some ⟨g,0,none⟩)]) (.slice q0 q1 q2) r'):=by
    show dS _ _ _ _ _ _ _ _ _;rw[qm];simp only[fE];exact D _ rfl
   have S:=zh HP.1;clear HC HP D hn;obtain⟨b7,b1,U⟩:=Co d.own;obtain⟨n1,F⟩:=zx ((f++[c]).length);have O:Hid (n1=f.length+1):=by show _=_;simpa using F
   rw[mI,<-F] at U;clear F;injection U with e0 e1 e2;subst e0;subst e1;subst e2
   by_cases h1:q1=1
   .have a2:((q1:Int)==1)=true:=σ;obtain rfl:f=[]:=by
     have:=O.out
     cases f with
     |nil=>rfl
     |cons a l=>simp at this;omega
    subst h1;obtain⟨g7,I,hT⟩:=sc (by have:=d.rep;simpa only [fE,nil_append] using this);have HT:Hid _:=hT;clear hT;have q:=d.own;rw[I] at q;obtain⟨g9,b2,a7,Z⟩:=Cn (by simpa only [fE,nil_append,length_singleton] using q);injection a7 with e1 _ e3;subst e1;subst e3;have HG:Hid _:=I;clear q I;go_wp2_with (go_at_call 86;refine(hh _ d.pl).mono ?_;rintro e w5 ⟨rfl,g5,l5⟩;have t5:=d.tr.of_heap (l5.block _ d.tr.lt);have H:=t5;obtain⟨u0,uB,uk,um,ux,us,uf⟩:=H;have b3:=cell_below l5 Z)
    go_ret
    refine⟨g7,rfl,⟨g5,d.rd.trans (Rd.of_below l5)⟩,?_⟩;rw[<-S.out];simp only[nil_append,dp];exact aV.of_heap (λj hj hlt'=>⟨⟨by have:=hj.1.1;omega,Zd hlt' l5.size⟩,l5.block j hlt'⟩) _ g7 HT
   .have a2:((q1:Int)==1)=false:=σ;go_wp2_with (go_at_call 86;refine(hh _ d.pl).mono ?_;rintro e w5 ⟨rfl,g5,l5⟩;have t5:=d.tr.of_heap (l5.block _ d.tr.lt);have H:=t5;obtain⟨u0,uB,uk,um,ux,us,uf⟩:=H)
    go_ret
    exact⟨w.heap.size,rfl,⟨g5,d.rd.trans (Rd.of_below l5)⟩,by rw[<-S.out,Kh];exact d.done C l5 (by rw[mI];have:=O.out;simp only[length_append,length_cons,length_nil];omega)⟩
variable (b s n) in
def Ei:
  (∀ r cs r',ay n r=.ok cs r'->gY r'=true->vV b s r r' (dp cs)) /\
  (∀ r ps r',bB n r=.ok ps r'->gY r'=true->yD b s r r' (rC ps)) /\
  (∀ r p r',ci r=true->dA n r=.ok p r'->Cm b s r r' (rP p)) /\
  (∀ r g S r',ci r=true->bV n r=.ok (g,S) r'->Cl b s r r' (match g with|[]=>.bytes S|c::cs'=>dp (c::cs'))):=by
 induction n using Nat.strongRecOn with
 |_ n ih=>
  refine⟨λr cs r' h ho w hw=>?_,λr ps r' h ho w hw=>?_,λr p r' hb h w hw=>?_,λr g S r' hb h w hw=>?_⟩
  .exact A3 n w b s r r' cs hw h ho (λm r r' ps hm hp ho'=>(ih m hm).2.1 r ps r' hp ho')
  .exact Hj n w b s r r' ps hw h ho (λm r r' p hm hb hp=>(ih m hm).2.2.1 r p r' hb hp)
  .cases n with
   |zero=>simp[dA] at h
   |succ n=>
    simp only[dA] at h
    split at h
    .simp at h
    .rename_i g S r1 h1
     split at h
     .rename_i cs r2 h2;injection h with e1 e2;subst e1;subst e2;exact Jm w b s r r1 _ _ _ _ cs hw ((ih n (lt_succ_self _)).2.2.2 r g S r1 hb h1) h2 (by cases g<;>simp only[rP])
     .simp at h
  .cases n with
   |zero=>simp[bV] at h
   |succ n=>
    match r,h,hw,hb with
    |c::t,h,hw,hb=>
     simp only[bV] at h
     split at h
     .rename_i e;subst e
      split at h
      .simp at h
      .rename_i cs r1 h1
       split at h
       .injection h with e1 e2;injection e1 with e1 e3;subst e1;subst e2;subst e3;obtain⟨m',c0,r0,_,_,_,d⟩:=kZ h1;have f:∃ a l,cs=a::l:=by
         rcases d with⟨_,A,_,_,rfl⟩|⟨_,rfl,_⟩
         .exact⟨_,_,rfl⟩
         .exact⟨_,_,rfl⟩
        obtain⟨a,l,rfl⟩:=f;exact jo w b s _ t _ _ hw (.inr (.inr (.inl ⟨rfl,(ih n (lt_succ_self _)).1 t (a::l) _ h1 (by simp[gY])⟩)))
       .simp at h
     .rename_i k
      split at h
      .rename_i e;subst e
       split at h
       .rename_i S' r1 h1;injection h with e1 e2;injection e1 with e1 e3;subst e1;subst e2;subst e3;exact jo w b s _ t r1 _ hw (.inr (.inl ⟨S',rfl,h1,rfl⟩))
       .simp at h
      .rename_i q
       split at h
       .rename_i e;subst e
        split at h
        .rename_i S' r1 h1;injection h with e1 e2;injection e1 with e1 e3;subst e1;subst e2;subst e3
         match t,h1,hw with
         |c'::t',h1,hw=>
          simp only[eo] at h1
          split at h1
          .rename_i S2 hS;injection h1 with e1 e2;subst e1;subst e2;exact jo w b s _ _ _ _ hw (.inr (.inr (.inr (.inl ⟨_,rfl,oY b s c' _ _ hS,rfl⟩))))
          .split at h1
           .rename_i v r2 hv;injection h1 with e1 e2;subst e1;subst e2;exact jo w b s _ _ _ _ hw (.inr (.inr (.inr (.inr ⟨aT,v,rfl,rfl,kY hv,nk b s 0 v _ _ hv,rfl⟩))))
           .simp at h1
        .simp at h
       .rename_i j
        split at h
        .rename_i e;subst e;injection h with e1 e2;injection e1 with e1 e3;subst e1;subst e2;subst e3;exact Ee w b s t hw
        .rename_i i;injection h with e1 e2;injection e1 with e1 e3;subst e1;subst e2;subst e3;exact jo w b s c t _ _ hw (.inl ⟨k,q,i,j,rfl,rfl⟩)
abbrev Hk (s:ByteArray):Obj:=.cells #[.string s,.int .i64 0] 181
variable (w s) in
def LM (hs:s.size<=200):Mk (w.alloc (Hk s)) w.heap.size s s.data.toList:=by
 refine⟨⟨0,?_,?_,Zk _,by simp[v_]⟩,λo=>?_,χ,hs⟩<;>simp[go_sem]
def Cp (w w':World) (e:Ending) (p:sT):Prop:=∃ g,e=.returned (.tuple #[.pointer (some ⟨g,0,none⟩),.bool p.front,.bool p.back])/\Below w.heap.size w w'/\aV w' (λk=>k<w'.heap.size) (dp p.choices) g
def yE (h:cz l=.ok p []):∃ r',ay (4*(dC 94 l).length+4) (dC 94 l)=.ok p.choices r'/\p.front=gP 94 l/\p.back=!r'.isEmpty/\gY r'=true:=by
 unfold cz at h
 split at h
 .simp at h
 .rename_i cs r' h1
  split at h
  .rename_i he;injection h with e _;subst e;refine⟨r',h1,rfl,?_,?_⟩
   .match r',he with
    |[],_=>rfl
    |c::t,he=>
     simp only[dC] at he
     split at he
     .rename_i e;subst e;rfl
     .simp at he
   .match r',he with
    |[],_=>rfl
    |c::t,he=>
     simp only[dC] at he
     split at he
     .rename_i e;subst e;simp[gY,he]
     .simp at he
  .simp at h
def nt {w w1:World} (h:Rd w.heap.size (w.alloc o) w1):Below w.heap.size w w1:=
 ⟨h.os,h.tape,h.output,by have:=h.size;simp at this;omega,λk hk=>(h.block k σ ω).trans (Ze _ _ _ hk)⟩
def Cq (h:aV x (dn B x) T g) (n:Nat):aV (x.drewN n) (λk=>k<(x.drewN n).heap.size) T g:=
 aV.of_heap (w:=x) (w':=x.drewN n) (S:=dn B x) (S':=λk=>k<(x.drewN n).heap.size) (λj hj _=>⟨hj.2,rfl⟩) T g h
variable (w s l r' T) in
def Hl (hg:Mk (w.alloc (Hk s)) w.heap.size s l) (c:UInt8) (hc:((c.toNat:Int)==94)=false) (hh:np w.heap.size s l c) (hch:vV w.heap.size s l r' T) :
  Calls prog 45 #[.string s] w λe w'=>∃ g,e=.returned (.tuple #[.pointer (some ⟨g,0,none⟩),.bool false,.bool (!r'.isEmpty)])/\Below w.heap.size w w'/\aV w' (λk=>k<w'.heap.size) T g:=by
 have HG:=zh hg;have hb:∀ k:Nat,k+r'.length=s.size->decide (k<s.size)=!r'.isEmpty:=by
  intro k hk
  cases r' with
  |nil=>simp at hk ⊢;omega
  |cons a t=>simp at hk ⊢;omega
 have HB:=zh hb
 go_enter func45,ntmps45
 go_wp2_with (first|(go_at_call 87;refine(hch _ g2).mono ?_;rintro e w3 ⟨g,rfl,⟨g3,l3⟩,t3⟩;obtain⟨k,c0,c1,hk,A,sz,lt,fz⟩:=g3.cells;have HT:Hid _:=t3;have f:Hid _:=HB k hk)|(go_at_call 86;refine(hh _ HG).mono ?_;rintro e w2 ⟨rfl,g2,l2⟩;obtain⟨k2,d0,d1,i,h,j,q,D⟩:=g2.cells))
 go_quiet (fail)
 go_wp2
 have d:=(Rd.of_below l2 (b:=w.heap.size)).trans l3;have C:=l3.size;refine Zb (v:=.tuple #[.pointer (some ⟨g,0,none⟩),.bool false,.bool (!r'.isEmpty)]) ?_ rfl ⟨g,rfl,nF (nt d) _,Cq HT nq⟩;rw[<-f.out];simp[results,results45,go_sem]
variable (w s) in
def KX (t r':List UInt8) (T:RT) (hg:Mk (w.alloc (Hk s)) w.heap.size s (94::t)) (hl:s.data.toList=94::t) (hh:np w.heap.size s (94::t) 94) (hch:vV w.heap.size s t r' T) :
  Calls prog 45 #[.string s] w λe w'=>∃ g,e=.returned (.tuple #[.pointer (some ⟨g,0,none⟩),.bool true,.bool (!r'.isEmpty)])/\Below w.heap.size w w'/\aV w' (λk=>k<w'.heap.size) T g:=by
 have HG:=zh hg;have hb:∀ k:Nat,k+r'.length=s.size->decide (k<s.size)=!r'.isEmpty:=by
  intro k hk
  cases r' with
  |nil=>simp at hk ⊢;omega
  |cons a t=>simp at hk ⊢;omega
 have HB:=zh hb;have h:Hid (∀ x,Mk x w.heap.size s (94::t)->Mk (x.setCell ⟨w.heap.size,1,none⟩ (.int .i64 1)) w.heap.size s t):=λx hx=>by
  have C:s.size=t.length+1:=by
   have:=congrArg length hl
   simpa using this
  have:=hx.to 1 ω;rw[show v_ s 1=t from by simp[v_,hl]] at this
  simpa using this
 go_enter func45,ntmps45
 go_wp2_with (first|(go_at_call 87;refine(hch _ (h _ g2)).mono ?_;rintro e w3 ⟨g,rfl,⟨g3,l3⟩,t3⟩;obtain⟨k,c0,c1,hk,D,sz,lt,fz⟩:=g3.cells;have HT:Hid _:=t3;have f:Hid _:=HB k hk)|(go_at_call 86;refine(hh _ HG).mono ?_;rintro e w2 ⟨rfl,g2,l2⟩;obtain⟨k2,d0,d1,j,i,q,A,F⟩:=g2.cells))
 go_quiet (fail)
 go_wp2
 have d:=((Rd.of_below l2 (b:=w.heap.size)).setCell 1 (.int .i64 1)).trans l3;have E:=l3.size;refine Zb (v:=.tuple #[.pointer (some ⟨g,0,none⟩),.bool true,.bool (!r'.isEmpty)]) ?_ rfl ⟨g,rfl,nF (nt d) _,Cq HT nq⟩;rw[<-f.out];simp[results,results45,go_sem]
variable (w s) in
def Jo (hs:s.size<=200) (p:sT) (h:cz s.data.toList=.ok p []) :
  Calls prog 45 #[.string s] w λe w'=>Cp w w' e p:=by
 obtain⟨r',hC,hf,d,ho⟩:=yE h;have a:=(Ei w.heap.size s _).1 _ _ _ hC ho;have g0:=LM w s hs;unfold Cp;rw[hf,d]
 match hl:s.data.toList with
 |[]=>
  rw[hl] at a g0;exact Hl w s [] r' _ g0 0 Zr (λw h=>dT w _ s [] h) a
 |c::t=>
  rw[hl] at a g0
  by_cases e:c=94
  .subst e;have e1:dC 94 (94::t)=t:=by simp[dC]
   rw[e1] at a;have e2:gP 94 (94::t)=true:=by simp[gP]
   rw[e2];exact KX w s t r' _ g0 hl (λw h=>dT w _ s _ h) a
  .have e1:dC 94 (c::t)=c::t:=by simp[dC,e]
   rw[e1] at a;have e2:gP 94 (c::t)=false:=by simp[gP,e]
   rw[e2];exact Hl w s (c::t) r' _ g0 c (ii e) (λw h=>dT w _ s _ h) a
end Go.Proofs.YtbjabpodkaokjaaGreatDoor.Sx
