import Derived.Test.YtbjabpodkaokjaaGreatDoorCC04
import Derived.Test.YtbjabpodkaokjaaGreatDoorCC09
set_option linter.all false
set_option maxHeartbeats 4000000
set_option maxRecDepth 100000
open List Nat Go.World Go.Proofs.Tryz
namespace Go.Proofs.YtbjabpodkaokjaaGreatDoor
open Sx (aO dw RT rP fO rC fE dp gD sE tm jR)
variable {n:Nat}{A:Pz}{k m i:Nat}{B:Pz}{w:World}
mutual
/-- How many spots (a thousand,if there are more). -/
def bO:RT->Nat
 |.bytes _=>1
 |.node _ ks=>min 1000 (bv ks)
 |.rep t sg lo hi=>min 1000 (if sg=123 then(if hi<0 then bO t*(lo+1).toNat else bO t*hi.toNat) else bO t)
def bv:List RT->Nat
 |[]=>0
 |t::ts=>bO t+bv ts
end
structure Rx where
 sets:List (Nat->Bool)
 fol:List (List Nat)
structure Rp where
 em:Bool
 first:List Nat
 last:List Nat
abbrev RM:=Rx->Rp×Rx
def cU:Rp:=⟨true,[],[]⟩
def sj:Rp:=⟨false,[],[]⟩
def Rp.may (p:Rp):Rp:={p with em:=true}
def ig (fol:List (List Nat)) (a b:List Nat):List (List Nat):=a.foldl (λf i=>f.modify i (·++b)) fol
def cE (x y:Rp):Rp:=⟨x.em&&y.em,if x.em then x.first++y.first else x.first,if y.em then x.last++y.last else y.last⟩
def sG (x y:Rp):Rp:=⟨x.em||y.em,x.first++y.first,x.last++y.last⟩
def Rx.beh (e:Rx) (x y:Rp):Rx:={e with fol:=ig e.fol x.last y.first}
def gM (S:Nat->Bool):RM:=λe=>(⟨false,[e.sets.length],[e.sets.length]⟩,⟨e.sets++[S],e.fol++[[]]⟩)
def BK (f:RM):RM:=λe=>((f e).1,(f e).2.beh (f e).1 (f e).1)
def mS (f:RM):RM:=λe=>((f e).1.may,(f e).2)
def bX (f:RM):Nat->Rp->RM
 |0,p,e=>(p,e)
 |l+1,p,e=>bX f l (cE p (f e).1) ((f e).2.beh p (f e).1)
def bY (f:RM):Nat->Rp->RM
 |0,p,e=>(p,e)
 |t+1,p,e=>bY f t (cE (f e).1 p).may ((f e).2.beh (f e).1 p)
def jC (f:RM) (sg:UInt8) (lo hi:Int):RM:=λe=>
 if sg=42 then mS (BK f) e else if sg=43 then BK f e else if sg=63 then mS f e else
 let o:=bX f lo.toNat cU e
 let r:=if hi<0 then mS (BK f) o.2 else bY f (hi-lo).toNat cU o.2
 (cE o.1 r.1,r.2.beh o.1 r.1)
mutual
def dY:RT->RM
 |.bytes S=>gM S
 |.rep t sg lo hi=>λe=>if bO (.rep t sg lo hi)=0 then(cU,e) else jC (dY t) sg lo hi e
 |.node k ks=>λe=>if bO (.node k ks)=0 then(cU,e) else if k=1 then lL ks cU e else mT ks sj e
def lL:List RT->Rp->RM
 |[],p,e=>(p,e)
 |t::ts,p,e=>lL ts (cE p (dY t e).1) ((dY t e).2.beh p (dY t e).1)
def mT:List RT->Rp->RM
 |[],p,e=>(p,e)
 |t::ts,p,e=>mT ts (sG p (dY t e).1) (dY t e).2
end
structure lC (e:Rx) (p:Rp) (A:Pz):Prop where
 f:∀ i,i∈p.first↔A.first i
 l:∀ i,i∈p.last↔A.last i
 em:p.em=true↔A.em
 fo:∀ i j,A.S i->(j∈e.fol.getD i []↔A.fol i j)
 b:∀ i c,A.S i->(e.sets.getD i (λ_=>false) c=true↔A.byt i c)
 ia:fS A
structure lN (n:Nat) (e:Rx):Prop where
 s:e.sets.length=n
 f:e.fol.length=n
structure mu (n:Nat) (e e':Rx):Prop where
 b:∀ i c,i<n->e'.sets.getD i (λ_=>false) c=e.sets.getD i (λ_=>false) c
 f:∀ i,i<n->e'.fol.getD i []=e.fol.getD i []
theorem mu.refl (n:Nat) (e:Rx):mu n e e:=⟨λ_ _ _=>rfl,λ_ _=>rfl⟩
theorem mu.trans {a b c:Rx} (h:mu n a b) (g:mu n b c):mu n a c:=⟨λi x q=>(g.b i x q).trans (h.b i x q),λi q=>(g.f i q).trans (h.f i q)⟩
def mu.mono {a b:Rx} (h:mu n a b) (q:m<=n):mu m a b:=⟨λi x k=>h.b i x ω,λi k=>h.f i ω⟩
theorem kK (b:List Nat):∀(a:List Nat) (fol:List (List Nat)),(ig fol a b).length=fol.length
 |[],fol=>rfl
 |i::a,fol=>by
  unfold ig;rw[foldl_cons];have:=kK b a (fol.modify i (·++b));unfold ig at this;rw[this];simp
theorem jk (fol:List (List Nat)) (b:List Nat) (k i:Nat):(fol.modify k (·++b)).getD i []=if k=i/\i<fol.length then fol.getD i []++b else fol.getD i []:=by
 simp only[getD_eq_getElem?_getD,getElem?_modify]
 by_cases h:k=i
 .subst h
  by_cases hl:k<fol.length
  .simp[hl]
  .simp[hl]
 .simp[h]
theorem qK (b:List Nat):∀(a:List Nat) (fol:List (List Nat)) (i j:Nat),j∈(ig fol a b).getD i []↔j∈fol.getD i []\/(i∈a/\i<fol.length/\j∈b)
 |[],fol,i,j=>by simp[ig]
 |k::a,fol,i,j=>by
  have:=qK b a (fol.modify k (·++b)) i j;unfold ig at this ⊢;rw[foldl_cons,this,jk];simp only[length_modify,mem_cons]
  by_cases h:k=i/\i<fol.length
  .rw[Zi h];obtain⟨rfl,hl⟩:=h;simp only[mem_append,hl,true_and,true_or]
   constructor
   .rintro((h|h)|⟨-,h⟩)
    .exact .inl h
    .exact .inr h
    .exact .inr h
   .rintro(h|h)
    .exact .inl (.inl h)
    .exact .inl (.inr h)
  .rw[Zh h]
   constructor
   .rintro(h|⟨h1,h2,h3⟩)
    .exact .inl h
    .exact .inr ⟨.inr h1,h2,h3⟩
   .rintro(h1|⟨h1|h1,h2,h3⟩)
    .exact .inl h1
    .exact(h ⟨h1.symm,h2⟩).elim
    .exact .inr ⟨h1,h2,h3⟩
theorem xp (b:List Nat):∀(a:List Nat) (fol:List (List Nat)) (i:Nat),i ∉ a->(ig fol a b).getD i []=fol.getD i []
 |[],fol,i,_=>rfl
 |k::a,fol,i,h=>by
  have:=xp b a (fol.modify k (·++b)) i (λq=>h (by simp[q]));unfold ig at this ⊢;rw[foldl_cons,this,jk,if_neg];rintro⟨rfl,-⟩;exact h χ
theorem lN.beh {e:Rx} (h:lN n e) (x y:Rp):lN n (e.beh x y):=⟨h.s,by unfold Rx.beh;simp only;rw[kK];exact h.f⟩
theorem mu.beh {e:Rx}{x:Rp} (y:Rp) (h:∀ i,i∈x.last->m<=i):mu m e (e.beh x y):=⟨λ_ _ _=>rfl,λi hi=>by
 unfold Rx.beh
 exact xp _ _ _ _ (λq=>by have:=h i q;omega)⟩
def lC.frame {e e':Rx}{p:Rp} (h:lC e p A) (hA:∀ i,A.S i->i<n) (f:mu n e e'):lC e' p A:=
 ⟨h.f,h.l,h.em,λi j hi=>by rw[f.f i (hA i hi)];exact h.fo i j hi,λi c hi=>by rw[f.b i c (hA i hi)];exact h.b i c hi,h.ia⟩
def qL (e:Rx):lC e cU aN:=⟨λi=>by simp[cU,aN],λi=>by simp[cU,aN],by simp[cU,aN],λ_ _ h=>h.elim,λ_ _ h=>h.elim,fS.n⟩
def Lk (e:Rx):lC e sj a0:=⟨λi=>by simp[sj,a0],λi=>by simp[sj,a0],by simp[sj,a0],λ_ _ h=>h.elim,λ_ _ h=>h.elim,fS.zero⟩
theorem lC.may {e:Rx}{p:Rp} (h:lC e p A):lC e p.may (jg A):=⟨h.f,h.l,by simp[Rp.may,jg],h.fo,h.b,h.ia.may⟩
theorem lC.ag {e:Rx}{p:Rp} (he:lN n e) (hA:∀ i,A.S i->i<n) (h:lC e p A):lC (e.beh p p) p (yH A):=by
 refine⟨h.f,h.l,h.em,λi j hi=>?_,h.b,h.ia.ag⟩;unfold Rx.beh
 simp only
 rw[qK,h.fo i j hi,h.l i,h.f j,he.f];exact⟨λq=>q.imp id (λq=>⟨q.1,q.2.2⟩),λq=>q.imp id (λq=>⟨q.1,hA i hi,q.2⟩)⟩
theorem lC.alt {e:Rx}{x y:Rp} (h:lC e x A) (g:lC e y B) (dk:∀ i,A.S i->¬ B.S i):lC e (sG x y) (fL A B):=by
 refine⟨λi=>?_,λi=>?_,?_,λi j hi=>?_,λi c hi=>?_,h.ia.alt g.ia⟩
 .exact mem_append.trans (or_congr (h.f i) (g.f i))
 .exact mem_append.trans (or_congr (h.l i) (g.l i))
 .simp only[sG,Bool.or_eq_true];exact or_congr h.em g.em
 .rcases hi with hi|hi
  .rw[h.fo i j hi];exact⟨.inl,λq=>q.elim id (λq=>(dk i hi (g.ia.o i j q).1).elim)⟩
  .rw[g.fo i j hi];exact⟨.inr,λq=>q.elim (λq=>(dk i (h.ia.o i j q).1 hi).elim) id⟩
 .rcases hi with hi|hi
  .rw[h.b i c hi];exact⟨.inl,λq=>q.elim id (λq=>(dk i hi (g.ia.b i c q)).elim)⟩
  .rw[g.b i c hi];exact⟨.inr,λq=>q.elim (λq=>(dk i (h.ia.b i c q) hi).elim) id⟩
theorem lC.beh {e:Rx}{x y:Rp} (he:lN n e) (hA:∀ i,A.S i->i<n) (h:lC e x A) (g:lC e y B) (dk:∀ i,A.S i->¬ B.S i):lC (e.beh x y) (cE x y) (co A B):=by
 refine⟨λi=>?_,λi=>?_,?_,λi j hi=>?_,λi c hi=>?_,h.ia.cat g.ia⟩
 .simp only[cE,co];rw[<-h.f i,<-g.f i,<-h.em]
  cases x.em<;>simp
 .simp only[cE,co];rw[<-h.l i,<-g.l i,<-g.em]
  cases y.em
  .simp
  .simp[or_comm]
 .simp only[cE,Bool.and_eq_true];exact and_congr h.em g.em
 .unfold Rx.beh
  simp only
  rw[qK,h.l i,g.f j,he.f];have key:j∈e.fol.getD i []↔A.fol i j\/B.fol i j:=by
   rcases hi with hi|hi
   .rw[h.fo i j hi];exact⟨.inl,λq=>q.elim id (λq=>(dk i hi (g.ia.o i j q).1).elim)⟩
   .rw[g.fo i j hi];exact⟨.inr,λq=>q.elim (λq=>(dk i (h.ia.o i j q).1 hi).elim) id⟩
  rw[key];exact⟨λq=>q.imp id (λq=>⟨q.1,q.2.2⟩),λq=>q.imp id (λq=>⟨q.1,hA i (h.ia.l i q.1),q.2⟩)⟩
 .rcases hi with hi|hi
  .show(e.sets.getD i (λ_=>false) c=true)↔_;rw[h.b i c hi];exact⟨.inl,λq=>q.elim id (λq=>(dk i hi (g.ia.b i c q)).elim)⟩
  .show(e.sets.getD i (λ_=>false) c=true)↔_;rw[g.b i c hi];exact⟨.inr,λq=>q.elim (λq=>(dk i (h.ia.b i c q) hi).elim) id⟩
structure FY (f:RM) (k:Nat) (A:Nat->Pz):Prop where
 s:∀ m i,(A m).S i↔Rg m (m+k) i
 r:∀ n e,lN n e->lN (n+k) (f e).2/\mu n e (f e).2/\lC (f e).2 (f e).1 (A n)
def Kx (S:Nat->Bool):FY (gM S) 1 (xc S):=by
 refine⟨λm i=>by simp only[xc];unfold Rg;omega,λn e he=>⟨⟨by simp[gM,he.s],by simp[gM,he.f]⟩,⟨λi c hi=>?_,λi hi=>?_⟩,⟨λi=>?_,λi=>?_,by simp[gM,xc],λi j hi=>?_,λi c hi=>?_,fS.on S n⟩⟩⟩
 .simp only[gM,getD_eq_getElem?_getD];rw[Zo (by rw[he.s];exact hi)]
 .grind [gM]
 .simp[gM,xc,he.s]
 .simp[gM,xc,he.s]
 .have hi:i=n:=hi;subst hi;simp[gM,xc,getD_eq_getElem?_getD,he.f]
 .have hi:i=n:=hi;subst hi;simp[gM,xc,getD_eq_getElem?_getD,he.s]
section
variable {f:RM}{k:Nat}{A:Nat->Pz} (g:FY f k A)
include g
def FY.lt (h:(A n).S i):n<=i/\i<n+k:=(g.s n i).1 h
def Ab:FY (mS f) k (λn=>jg (A n)):=⟨g.s,λn e he=>by
 obtain⟨h1,h2,h3⟩:=g.r n e he
 exact⟨h1,h2,h3.may⟩⟩
def FZ:FY (BK f) k (λn=>yH (A n)):=⟨g.s,λn e he=>by
 obtain⟨h1,h2,h3⟩:=g.r n e he
 exact⟨h1.beh _ _,h2.trans (mu.beh _ (λi q=>(g.lt (h3.ia.l i ((h3.l i).1 q))).1)),h3.ag h1 (λi q=>(g.lt q).2)⟩⟩
theorem F0:∀(l m n:Nat) (e:Rx) (p:Rp) (B:Pz),m<=n->lN n e->lC e p B->(∀ i,B.S i->Rg m n i)->lN (n+k*l) (bX f l p e).2/\mu m e (bX f l p e).2/\lC (bX f l p e).2 (bX f l p e).1 (co B (jv A k l n))
 |0,m,n,e,p,B,_,he,hp,_=>by grind [bX,jv,jh,mu.refl]
 |l+1,m,n,e,p,B,hm,he,hp,hB=>by
  obtain⟨h1,h2,h3⟩:=g.r n e he;have a:=hp.frame (λi q=>(hB i q).2) h2;have dk:∀ i,B.S i->¬(A n).S i:=λi q s=>by
   have:=hB i q;have:=g.lt s;unfold Rg at *;omega
  have hj:=lC.beh h1 (λi q=>by have:=hB i q;unfold Rg at this;omega) a h3 dk
  obtain⟨k1,k2,k3⟩:=F0 l m (n+k) ((f e).2.beh p (f e).1) (cE p (f e).1) (co B (A n)) ω (h1.beh _ _) hj (λi q=>by
   rcases q with q|q
   .have:=hB i q;unfold Rg at *;omega
   .have:=g.lt q;unfold Rg;omega)
  simp only[bX,jv];rw[mul_succ,show n+(k*l+k)=n+k+k*l by omega,<-iy];exact⟨k1,((h2.mono hm).trans (mu.beh _ (λi q=>(hB i (a.ia.l i ((a.l i).1 q))).1))).trans k2,k3⟩
theorem BL:∀(t s m:Nat) (e:Rx) (p:Rp),lN (m+k*s) e->lC e p (tailA A k s m)->lN (m+k*(s+t)) (bY f t p e).2/\mu m e (bY f t p e).2/\lC (bY f t p e).2 (bY f t p e).1 (tailA A k (s+t) m)
 |0,s,m,e,p,he,hp=>by grind [bY,mu.refl]
 |t+1,s,m,e,p,he,hp=>by
  obtain⟨h1,h2,h3⟩:=g.r (m+k*s) e he;have hS:=jw (k:=k) g.s s m;have a:=hp.frame (λi q=>((hS i).1 q).2) h2;have dk:∀ i,(A (m+k*s)).S i->¬(tailA A k s m).S i:=λi q r=>by
   have:=g.lt q;have:=(hS i).1 r;unfold Rg at *;omega
  have hj:=(lC.beh h1 (λi q=>(g.lt q).2) h3 a dk).may;obtain⟨k1,k2,k3⟩:=BL t (s+1) m ((f e).2.beh (f e).1 p) (cE (f e).1 p).may (by rw[mul_succ,<-Nat.add_assoc];exact h1.beh _ _) hj;simp only[bY];rw[show s+(t+1)=s+1+t by omega];exact⟨k1,((h2.mono ω).trans (mu.beh _ (λi q=>by have:=g.lt (h3.ia.l i ((h3.l i).1 q));omega))).trans k2,k3⟩
def Ky {c:dw} (hc:gI c):FY (jC f c.sign (sE c) (tm c)) (k*eu c) (ic c A k):=by
 rcases hc with hs|hs|hs|⟨hs,h0,h3,h1⟩
 .have:eu c=1:=by simp[eu,hs]
  rw[this,Nat.mul_one];have e1:jC f c.sign (sE c) (tm c)=mS (BK f):=by funext e;unfold jC;rw[Zi hs]
  have e2:ic c A k=λn=>jg (yH (A n)):=by funext n;unfold ic;rw[Zi hs]
  rw[e1,e2];exact Ab (FZ g)
 .have:eu c=1:=by simp[eu,hs]
  rw[this,Nat.mul_one];have a:¬ c.sign=42:=by rw[hs];decide
  have e1:jC f c.sign (sE c) (tm c)=BK f:=by funext e;unfold jC;rw[Zh a,Zi hs]
  have e2:ic c A k=λn=>yH (A n):=by funext n;unfold ic;rw[Zh a,Zi hs]
  rw[e1,e2];exact FZ g
 .have:eu c=1:=by simp[eu,hs]
  rw[this,Nat.mul_one];have a:¬ c.sign=42:=by rw[hs];decide
  have h:¬ c.sign=43:=by rw[hs];decide
  have e1:jC f c.sign (sE c) (tm c)=mS f:=by funext e;unfold jC;rw[Zh a,Zh h,Zi hs]
  have e2:ic c A k=λn=>jg (A n):=by funext n;unfold ic;rw[Zh a,Zh h,Zi hs]
  rw[e1,e2];exact Ab g
 .have a:¬ c.sign=42:=by rw[hs];decide
  have h:¬ c.sign=43:=by rw[hs];decide
  have j:¬ c.sign=63:=by rw[hs];decide
  have o:sE c=c.least:=by unfold sE;rw[Zi hs]
  have l:tm c=c.most:=by unfold tm;rw[Zi hs]
  rw[o,l];have d:=λn e (he:lN n e)=>F0 g c.least.toNat n n e cU aN zq he (qL e) (λi q=>q.elim)
  simp only[kD] at d;rcases h1 with h1|h1
  .have:eu c=c.least.toNat+1:=by simp[eu,hs,h1]
   rw[this,mul_succ];have e1:jC f c.sign c.least c.most=λe=>(cE (bX f c.least.toNat cU e).1 (mS (BK f) (bX f c.least.toNat cU e).2).1,(mS (BK f) (bX f c.least.toNat cU e).2).2.beh (bX f c.least.toNat cU e).1 (mS (BK f) (bX f c.least.toNat cU e).2).1):=by grind [jC]
   have e2:ic c A k=λn=>co (jv A k c.least.toNat n) (jg (yH (A (n+k*c.least.toNat)))):=by funext n;unfold ic;rw[Zh a,Zh h,Zh j,Zi h1]
   rw[e1,e2];refine⟨λm i=>?_,λn e he=>?_⟩
   .simp only[co,jg,yH,mq g.s,g.s];unfold Rg;omega
   .obtain⟨a1,a2,a3⟩:=d n e he;obtain⟨b1,b2,b3⟩:=(Ab (FZ g)).r (n+k*c.least.toNat) _ a1;have hS:=mq (k:=k) g.s c.least.toNat n;have b:=a3.frame (λi q=>((hS i).1 q).2) b2;rw[<-Nat.add_assoc]
    exact⟨b1.beh _ _,(a2.trans (b2.mono ω)).trans (mu.beh _ (λi q=>((hS i).1 (b.ia.l i ((b.l i).1 q))).1)),lC.beh b1 (λi q=>by have:=(hS i).1 q;unfold Rg at this;omega) b b3 (λi q r=>by
     have:=(hS i).1 q;have:=g.lt (n:=n+k*c.least.toNat) r;unfold Rg at *
     omega)⟩
  .have hm:¬ c.most=-1:=ω;have:eu c=c.most.toNat:=by simp[eu,hs,hm]
   rw[this];have p:k*c.most.toNat=k*c.least.toNat+k*(c.most.toNat-c.least.toNat):=by rw[<-Nat.mul_add];congr 1;omega
   have e1:jC f c.sign c.least c.most=λe=>(cE (bX f c.least.toNat cU e).1 (bY f (c.most.toNat-c.least.toNat) cU (bX f c.least.toNat cU e).2).1,(bY f (c.most.toNat-c.least.toNat) cU (bX f c.least.toNat cU e).2).2.beh (bX f c.least.toNat cU e).1 (bY f (c.most.toNat-c.least.toNat) cU (bX f c.least.toNat cU e).2).1):=by grind [jC]
   have e2:ic c A k=λn=>co (jv A k c.least.toNat n) (tailA A k (c.most.toNat-c.least.toNat) (n+k*c.least.toNat)):=by funext n;unfold ic;rw[Zh a,Zh h,Zh j,Zh hm]
   rw[e1,e2,p];refine⟨λm i=>?_,λn e he=>?_⟩
   .simp only[co,mq g.s,jw g.s];unfold Rg;omega
   .obtain⟨a1,a2,a3⟩:=d n e he;have ht:=BL g (c.most.toNat-c.least.toNat) 0 (n+k*c.least.toNat) (bX f c.least.toNat cU e).2 cU (by rw[Nat.mul_zero,Nat.add_zero];exact a1) (qL _);rw[Nat.zero_add] at ht;obtain⟨b1,b2,b3⟩:=ht;have hS:=mq (k:=k) g.s c.least.toNat n;have hU:=jw (k:=k) g.s (c.most.toNat-c.least.toNat) (n+k*c.least.toNat);have b:=a3.frame (λi q=>((hS i).1 q).2) b2;rw[<-Nat.add_assoc]
    exact⟨b1.beh _ _,(a2.trans (b2.mono ω)).trans (mu.beh _ (λi q=>((hS i).1 (b.ia.l i ((b.l i).1 q))).1)),lC.beh b1 (λi q=>by have:=(hS i).1 q;unfold Rg at this;omega) b b3 (λi q r=>by
     have:=(hS i).1 q;have:=(hU i).1 r;unfold Rg at *
     omega)⟩
end
theorem min_mul (n c:Nat):min 1000 (min 1000 n*c)=min 1000 (n*c):=by
 rcases Nat.lt_or_ge n 1000 with h|h
 .grind
 .rw[show min 1000 n=1000 by omega];rcases eq_zero_or_pos c with rfl|hc
  .simp
  .have h1:1000*1<=1000*c:=mul_le_mul_left _ hc;have h2:1000*c<=n*c:=mul_le_mul_right _ h;omega
def IC (t:RT) {c:dw} (hc:gI c):bO (.rep t c.sign (sE c) (tm c))=min 1000 (bO t*eu c):=by
 simp only[bO];rcases hc with hs|hs|hs|⟨hs,h0,h3,h1⟩
 .simp[eu,hs]
 .simp[eu,hs]
 .simp[eu,hs]
 .grind [sE,tm,eu]
theorem Dw (t:RT) (cs:List dw) (c:dw):gD t (cs++[c])=.rep (gD t cs) c.sign (sE c) (tm c):=by
 induction cs generalizing t with
 |nil=>rfl
 |cons d cs ih=>simp only[cons_append,gD,ih]
def F2 {t:RT}{A:Nat->Pz} (g:FY (dY t) k A) (hk:bO t=min 1000 k) (h0:k=0->∀ n,A n=aN) (cs:List dw):(∀ c∈cs,gI c)->FY (dY (gD t cs)) (jT k cs.reverse) (gT A k cs.reverse)/\bO (gD t cs)=min 1000 (jT k cs.reverse):=by
 induction cs using xi with
 |h0=>
  intro _;refine⟨?_,hk⟩;have:gT A k []=A:=funext λn=>by grind [gT]
  simp only[reverse_nil,gD,jT];rw[this];exact g
 |h1 cs c ih=>
  intro hc;obtain⟨i1,i2⟩:=ih (λd hd=>hc d (by simp[hd]));have a:=hc c χ;rw[Dw,reverse_append,reverse_cons,reverse_nil,nil_append,singleton_append];have hr:bO (.rep (gD t cs) c.sign (sE c) (tm c))=min 1000 (jT k (c::cs.reverse)):=by
   rw[IC _ a,i2,min_mul];rfl
  refine⟨?_,hr⟩
  by_cases e0:jT k (c::cs.reverse)=0
  .have e1:dY (.rep (gD t cs) c.sign (sE c) (tm c))=λe=>(cU,e):=by
    funext e
    simp only[dY];rw[Zi (by rw[hr,e0];rfl)]
   have e2:gT A k (c::cs.reverse)=λ_=>aN:=funext λn=>by simp only[gT];rw[Zi e0]
   rw[e1,e2,e0];exact⟨λm i=>⟨λq=>q.elim,λq=>by unfold Rg at q;omega⟩,λn e he=>⟨he,mu.refl _ _,qL e⟩⟩
  .have e1:dY (.rep (gD t cs) c.sign (sE c) (tm c))=jC (dY (gD t cs)) c.sign (sE c) (tm c):=by
    funext e
    simp only[dY];rw[Zh (by rw[hr];omega)]
   have e2:gT A k (c::cs.reverse)=ic c (gT A k cs.reverse) (jT k cs.reverse):=funext λn=>by simp only[gT];rw[Zh e0]
   rw[e1,e2];exact Ky i1 a
theorem ID:co aN aN=aN:=jh aN
theorem IE:fL aN aN=aN:=Pz.same (λi=>or_self_iff) (λi=>or_self_iff) (λi=>or_self_iff) (λi j=>or_self_iff) (λi c=>or_self_iff) or_self_iff
def KA {A:Nat->Pz}:∀ {cs:List dw}{n:Nat},jT k cs=0->gT A k cs n=aN
 |[],n,h=>by
  have h:k=0:=h;simp only[gT];rw[Zi h]
 |c::cs,n,h=>by simp only[gT];rw[Zi h]
def Ll (p:aO) (n:Nat) (h:bJ p=0):Dn p n=aN:=by
 obtain⟨g,S,cs⟩:=p;rw[zK];rw[ix] at h;exact KA h
theorem BM:∀(ps:List aO) (n:Nat),eC ps=0->pj ps n=aN
 |[],n,_=>by simp only[pj]
 |p::ps,n,h=>by
  simp only[eC] at h;simp only[pj];rw[Ll p n ω,BM ps _ ω,ID]
theorem Ac:∀(cs:List (List aO)) (n:Nat),cs≠[]->aY cs=0->gK cs n=aN
 |[],n,h,_=>(h rfl).elim
 |[c],n,_,h=>by grind [aY,gK,BM,lq]
 |c::d::cs,n,_,h=>by
  rw[aY] at h;rw[gK,BM c n ω,Ac (d::cs) _ χ ω,IE]
theorem xq (k:Nat) (ks:List RT):bO (.node k ks)=min 1000 (bv ks):=by simp only[bO]
def Mb (p:aO):Prop:=FY (dY (rP p)) (bJ p) (Dn p)/\bO (rP p)=min 1000 (bJ p)
def Lm (ps:List aO):Prop:=FY (dY (rC ps)) (eC ps) (pj ps)/\bO (rC ps)=min 1000 (eC ps)
def Ln (ps:List aO):Prop:=(∀ p∈ps,Mb p)/\min 1000 (bv (fO ps))=min 1000 (eC ps)/\∀(m n:Nat) (e:Rx) (p:Rp) (B:Pz),m<=n->lN n e->lC e p B->(∀ i,B.S i->Rg m n i)->lN (n+eC ps) (lL (fO ps) p e).2/\mu m e (lL (fO ps) p e).2/\lC (lL (fO ps) p e).2 (lL (fO ps) p e).1 (co B (pj ps n))
def Lo (cs:List (List aO)):Prop:=(∀ c∈cs,Lm c)/\min 1000 (bv (fE cs))=min 1000 (aY cs)/\∀(m n:Nat) (e:Rx) (p:Rp) (B:Pz),m<=n->lN n e->lC e p B->(∀ i,B.S i->Rg m n i)->lN (n+aY cs) (mT (fE cs) p e).2/\mu m e (mT (fE cs) p e).2/\lC (mT (fE cs) p e).2 (mT (fE cs) p e).1 (fL B (gK cs n))
def Lp:∀(ps:List aO),dW ps->Ln ps->Lm ps
 |[],h,_=>by
  unfold Lm;have e1:dY (rC [])=λe=>(cU,e):=by
   funext e
   simp only[rC,dY];rw[Zi (by simp[bO,bv])]
  rw[e1,show pj []=λ_=>aN from funext λn=>by simp only[pj]];exact⟨⟨λm i=>⟨λq=>q.elim,λq=>by simp only[eC] at q;unfold Rg at q;omega⟩,λn e he=>⟨by simpa [eC] using he,mu.refl _ _,qL e⟩⟩,by simp[rC,bO,bv,eC]⟩
 |[p],h,hi=>by
  unfold Lm;obtain⟨i1,i2⟩:=hi.1 p χ;have e2:pj [p]=Dn p:=funext λn=>by simp only[pj,jh]
  have e3:eC [p]=bJ p:=by simp[eC]
  rw[e2,e3];simp only[rC];exact⟨i1,i2⟩
 |p::q::ps,h,hi=>by
  unfold Lm;obtain⟨-,j1,j2⟩:=hi;have hr:bO (.node 1 (fO (p::q::ps)))=min 1000 (eC (p::q::ps)):=by rw[xq,j1]
  have e0:rC (p::q::ps)=.node 1 (fO (p::q::ps)):=by simp only[rC,fO]
  rw[e0];refine⟨?_,hr⟩
  by_cases hz:eC (p::q::ps)=0
  .have e1:dY (.node 1 (fO (p::q::ps)))=λe=>(cU,e):=by
    funext e
    simp only[dY];rw[Zi (by rw[hr,hz];rfl)]
   rw[e1,hz,show pj (p::q::ps)=λ_=>aN from funext λn=>BM _ n hz];exact⟨λm i=>⟨λq=>q.elim,λq=>by unfold Rg at q;omega⟩,λn e he=>⟨he,mu.refl _ _,qL e⟩⟩
  .have e1:dY (.node 1 (fO (p::q::ps)))=λe=>lL (fO (p::q::ps)) cU e:=by
    funext e
    simp only[dY];rw[Zh (by rw[hr];omega),Zi trivial]
   rw[e1];refine⟨xd (p::q::ps) h,λn e he=>?_⟩;have:=j2 n n e cU aN zq he (qL e) (λi q=>q.elim)
   rwa [kD] at this
def Ad:∀(cs:List (List aO)),cs≠[]->aX cs->Lo cs->FY (dY (dp cs)) (aY cs) (gK cs)/\bO (dp cs)=min 1000 (aY cs)
 |[],h,_,_=>(h rfl).elim
 |[c],_,h,hi=>by
  obtain⟨i1,i2⟩:=hi.1 c χ;have e2:gK [c]=pj c:=funext λn=>by simp only[gK,lq]
  have e3:aY [c]=eC c:=by simp[aY]
  rw[e2,e3];simp only[dp];exact⟨i1,i2⟩
 |c::d::cs,_,h,hi=>by
  obtain⟨-,j1,j2⟩:=hi;have hr:bO (.node 2 (fE (c::d::cs)))=min 1000 (aY (c::d::cs)):=by rw[xq,j1]
  have e0:dp (c::d::cs)=.node 2 (fE (c::d::cs)):=by simp only[dp,fE]
  rw[e0];refine⟨?_,hr⟩
  by_cases hz:aY (c::d::cs)=0
  .have e1:dY (.node 2 (fE (c::d::cs)))=λe=>(cU,e):=by
    funext e
    simp only[dY];rw[Zi (by rw[hr,hz];rfl)]
   rw[e1,hz,show gK (c::d::cs)=λ_=>aN from funext λn=>Ac _ n χ hz];exact⟨λm i=>⟨λq=>q.elim,λq=>by unfold Rg at q;omega⟩,λn e he=>⟨he,mu.refl _ _,qL e⟩⟩
  .have e1:dY (.node 2 (fE (c::d::cs)))=λe=>mT (fE (c::d::cs)) sj e:=by
    funext e
    simp only[dY];rw[Zh (by rw[hr];omega),Zh Zr]
   rw[e1];refine⟨ve (c::d::cs) h,λn e he=>?_⟩;have:=j2 n n e sj a0 zq he (Lk e) (λi q=>q.elim)
   rwa [nP] at this
def pk (g:List (List aO)) (S:Nat->Bool):RT:=match g with|[]=>.bytes S|_::_=>dp g
theorem BN (g:List (List aO)) (S:Nat->Bool) (cs:List dw):rP (.mk g S cs)=gD (pk g S) cs:=by
 cases g with
 |nil=>simp only[rP];rfl
 |cons c gs=>simp only[rP];rfl
mutual
theorem Mc:∀(p:aO),iX p->Mb p
 |.mk g S cs,h=>by
  unfold Mb;simp only[iX] at h;rw[ix,show Dn (.mk g S cs)=gT (L9 g S) (zI g) cs.reverse from funext λn=>zK g S cs n,BN]
  match g,h with
  |[],h=>exact F2 (t:=.bytes S) (k:=1) (A:=xc S) (by simpa only [dY] using Kx S) (by simp[bO]) (λe=>by cases e) cs h.1
  |c::gs,h=>
   obtain⟨i1,i2⟩:=Ad (c::gs) χ h.2 (BO (c::gs) h.2);rw[kC];exact F2 (t:=dp (c::gs)) i1 i2 (λe n=>Ac (c::gs) n χ e) cs h.1
theorem JK:∀(ps:List aO),dW ps->Ln ps
 |[],_=>⟨λp h=>by simp at h,by simp only[fO,bv,eC],λm n e p B _ he hp _=>by
  simp only[fO,lL,eC,pj,jh,Nat.add_zero]
  exact⟨he,mu.refl _ _,hp⟩⟩
 |q::ps,h=>by
  simp only[dW] at h;have hq:=Mc q h.1;obtain⟨g,i2⟩:=hq;obtain⟨j0,j1,j2⟩:=JK ps h.2;refine⟨λp hp=>(mem_cons.1 hp).elim (λe=>by rw[e];exact⟨g,i2⟩) (j0 p),by simp only[fO,bv,eC,i2];omega,λm n e p B hm he hp hB=>?_⟩;obtain⟨h1,h2,h3⟩:=g.r n e he;have a:=hp.frame (λi q=>(hB i q).2) h2;have dk:∀ i,B.S i->¬(Dn q n).S i:=λi q s=>by
   have:=hB i q;have:=g.lt s;unfold Rg at *;omega
  have hj:=lC.beh h1 (λi q=>by have:=hB i q;unfold Rg at this;omega) a h3 dk
  obtain⟨k1,k2,k3⟩:=j2 m (n+bJ q) ((dY (rP q) e).2.beh p (dY (rP q) e).1) (cE p (dY (rP q) e).1) (co B (Dn q n)) ω (h1.beh _ _) hj (λi q=>by
   rcases q with q|q
   .have:=hB i q;unfold Rg at *;omega
   .have:=g.lt q;unfold Rg;omega)
  simp only[fO,lL,eC,pj];rw[<-Nat.add_assoc,<-iy];exact⟨k1,((h2.mono hm).trans (mu.beh _ (λi q=>(hB i (a.ia.l i ((a.l i).1 q))).1))).trans k2,k3⟩
theorem BO:∀(cs:List (List aO)),aX cs->Lo cs
 |[],_=>⟨λp h=>by simp at h,by simp only[fE,bv,aY],λm n e p B _ he hp _=>by
  simp only[fE,mT,aY,gK,lq,Nat.add_zero]
  exact⟨he,mu.refl _ _,hp⟩⟩
 |c::cs,h=>by
  simp only[aX] at h;obtain⟨g,i2⟩:=Lp c h.1 (JK c h.1);obtain⟨j0,j1,j2⟩:=BO cs h.2;refine⟨λp hp=>(mem_cons.1 hp).elim (λe=>by rw[e];exact⟨g,i2⟩) (j0 p),by simp only[fE,bv,aY,i2];omega,λm n e p B hm he hp hB=>?_⟩;obtain⟨h1,h2,h3⟩:=g.r n e he;have a:=hp.frame (λi q=>(hB i q).2) h2;have dk:∀ i,B.S i->¬(pj c n).S i:=λi q s=>by
   have:=hB i q;have:=g.lt s;unfold Rg at *;omega
  have hj:=lC.alt a h3 dk
  obtain⟨k1,k2,k3⟩:=j2 m (n+eC c) (dY (rC c) e).2 (sG p (dY (rC c) e).1) (fL B (pj c n)) ω h1 hj (λi q=>by
   rcases q with q|q
   .have:=hB i q;unfold Rg at *;omega
   .have:=g.lt q;unfold Rg;omega)
  simp only[fE,mT,aY,gK];rw[<-Nat.add_assoc,<-qu];exact⟨k1,(h2.mono hm).trans k2,k3⟩
end
def nX {cs:List (List aO)} (h0:cs≠[]) (h:aX cs):bO (dp cs)=min 1000 (aY cs)/\∀ front,FP ⟨(dY (dp cs) ⟨[],[]⟩).2.sets,(dY (dp cs) ⟨[],[]⟩).2.fol,(dY (dp cs) ⟨[],[]⟩).1.em,(dY (dp cs) ⟨[],[]⟩).1.first,(dY (dp cs) ⟨[],[]⟩).1.last,front⟩ (aY cs) (gK cs 0):=by
 obtain⟨i1,i2⟩:=Ad cs h0 h (BO cs h);obtain⟨h1,-,h3⟩:=i1.r 0 ⟨[],[]⟩ ⟨rfl,rfl⟩;rw[Nat.zero_add] at h1;have hS:∀ i,i<aY cs->(gK cs 0).S i:=λi hi=>(i1.s 0 i).2 ⟨Zk _,ω⟩
 exact⟨i2,λfront=>⟨h1.s,h1.f,λi c hi=>h3.b i c (hS i hi),λi j hi=>h3.fo i j (hS i hi),h3.f,h3.l,h3.em⟩⟩
open Go.RowKit
open Sx (aO dw RT Tr aV bQ)
def F3 {x y:World}{T:RT}{g:Nat} (h:aV x (λk=>k<x.heap.size) T g) (hl:Below x.heap.size x y):aV y (λk=>k<y.heap.size) T g:=
 Sx.aV.of_heap (S':=λk=>k<y.heap.size) (λj hj _=>⟨Zd hj hl.size,hl.block j hj⟩) T g h
def tO {S:Nat->Prop}{e:TypeId}{v:Value}{xs:List Value} (h:Sx.db w S e 1 v n xs) (hn:0<n):∃ M a,v=.slice (some ⟨M,0,none⟩) n a/\n<=a/\∀(j:Nat) (u:Value),j<n->xs[j]?=some u->w.cell? ⟨M,j,none⟩=some u:=by
 obtain⟨h1,h2⟩:=h;rcases h2 with⟨_,h3⟩|⟨g,a,b,hv,hg,hh,c,hc,hs,ht⟩
 .omega
 .refine⟨g,a,hv,c,λj u hj hx=>?_⟩;have:b.toList[j]?=some u:=by
   have h4:(b.toList.take (n*1))[j]?=some u:=by rw[ht];exact hx
   rwa [getElem?_take_of_lt ω] at h4
  simp[cell?,hh]
  simpa using this
theorem qN {w:World}{S:Nat->Prop}:∀ {ts:List RT}{vs:List Value},bQ w S ts vs->∀(j:Nat) (hj:j<ts.length),∃ g,vs[j]?=some (.pointer (some ⟨g,0,none⟩))/\aV w S ts[j] g
 |[],_,_,j,hj=>by simp at hj
 |t::ts,vs,h,j,hj=>by
  simp only[bQ] at h;obtain⟨g,a,rfl,h1,h2⟩:=h
  cases j with
  |zero=>exact⟨g,rfl,h1⟩
  |succ j=>
   obtain⟨g',e,h3⟩:=qN h2 j (by simpa using hj);exact⟨g',by simpa using e,by simpa using h3⟩
abbrev BP (T:RT):Prop:=∀ w g,aV w (λk=>k<w.heap.size) T g->Calls prog 46 #[.pointer (some ⟨g,0,none⟩)] w λe w'=>e=.returned (.int .i64 (bO T))/\Below w.heap.size w w'
def F4:∀ t:RT,bO t<=1000
 |.bytes _=>by simp[bO]
 |.node _ _=>by simp only[bO];omega
 |.rep _ _ _ _=>by simp only[bO];omega
def nY (ts:List RT) (j:Nat) (hj:j<ts.length):bv (ts.take (j+1))=bv (ts.take j)+bO ts[j]:=by
 induction ts generalizing j with
 |nil=>simp at hj
 |cons t ts ih=>
  cases j with
  |zero=>simp[bv]
  |succ j=>
   simp only[take_succ_cons,bv,getElem_cons_succ];rw[ih j (by simpa using hj)];omega
def BQ (ts:List RT):bv ts<=1000*ts.length:=by
 induction ts with
 |nil=>simp[bv]
 |cons t ts ih=>simp only[bv,length_cons];have:=F4 t;omega
def Ae (S:Nat->Bool):BP (.bytes S):=by
 intro w g h;simp only[aV] at h;obtain⟨hg,kv,mn,mx,sg,hT⟩:=h;obtain⟨u0,uB,uk,um,ux,us,uf⟩:=hT
 go_enter func46,ntmps46
 go_wp2
 go_ret
 exact⟨by simp[bO],ZB⟩
def tP (ts:List RT) (hk1:ts.length<=1000) (hts:∀(j:Nat) (hj:j<ts.length),BP ts[j]) (w:World) (g:Nat) (K:Int) (B:Nat->Bool) (kv:Value) (lo hi:Int) (sg:Int) (hT:Tr w g K B kv lo hi sg) (vs:List Value) (hrow:Sx.db w (λk=>k<w.heap.size) 100 1 kv ts.length vs) (hR:bQ w (λk=>k<w.heap.size) ts vs) (R:Nat)
  (hK:K≠0) (hw:((K=3->(sg==123)=false)/\R=min 1000 (bv ts))\/(K=3/\sg=123/\∃ m:Nat,m<=100/\ts.length=1/\R=min 1000 (bv ts*m)/\((hi<0/\lo+1=m)\/(0<=hi/\hi=m)))) :
  Calls prog 46 #[.pointer (some ⟨g,0,none⟩)] w λe w'=>e=.returned (.int .i64 R)/\Below w.heap.size w w':=by
 have HT:=zh hT;have HC:Hid (∀(j:Nat) (hj:j<ts.length),∃ M b g',kv=.slice (some ⟨M,0,none⟩) ts.length b/\M<w.heap.size/\w.cell? ⟨M,j,none⟩=some (.pointer (some ⟨g',0,none⟩))/\aV w (λk=>k<w.heap.size) ts[j] g'):=λj hj=>by
  obtain⟨M,b,h,I,l⟩:=tO hrow ω;have hM:M<w.heap.size:=by
   rcases hrow.2 with⟨h2,h3⟩|⟨g2,C,E,hv,hS,_⟩
   .omega
   .rw[h] at hv;injection hv with e _ _;injection e with e;injection e with e;rw[e];exact hS
  obtain⟨g',e,h3⟩:=qN hR j hj;exact⟨M,b,g',h,hM,l j _ hj e,h3⟩
 obtain⟨a,b,h⟩:∃ a b,kv=.slice a ts.length b:=by
  rcases hrow.2 with⟨h2,h3⟩|⟨g2,C,E,hv,hS,_⟩
  .exact⟨none,0,by rw[h2,h3]⟩
  .exact⟨_,_,hv⟩
 subst h;have G:=zh hts;obtain⟨n,hn⟩:=zx ts.length;have HN:=zh hn;have HW:=zh hw;have z:Tr w g K B (.slice a n b) lo hi sg:=by rw[hn];exact hT
 have HT:=zh z;rw[<-hn] at hk1;have S:(K==0)=false:=by simp[hK]
 obtain⟨u0,uB,uk,um,ux,us,uf⟩:=z;clear hrow hR hts hn hw hT
 go_enter func46,ntmps46
 go_wp2
 go_loopw [3,4] (λs i wq=>∃(j m:Nat),s=.int .i64 m/\m=bv (ts.take j)/\i=.int .i64 j/\j<=n/\Below w.heap.size w wq) (λ_ i _=>n-(intOf i).toNat)
 case atStart=>exact⟨0,0,rfl,by simp[bv],rfl,ω,ZB⟩
 case round=>
  obtain⟨j,m,rfl,hm,rfl,hj,hl⟩:=hrel;have HM:=zh hm;have T:m<=1000000:=by
   have:=BQ (ts.take j);rw[<-hm] at this;simp at this;have h2:min j ts.length<=1000:=by have:=HN;omega
   omega
  clear hm u0 uB uk um ux us uf;have tq:=HT.of_heap (hl.block _ HT.lt);obtain⟨v0,vB,vk,vm,vx,Q,vf⟩:=tq
  by_cases hlt:j<n
  .have t:j<ts.length:=by have:=HN.out;omega
   obtain⟨M,L,g',h,hM,y,u⟩:=HC j t;injection h with e1 _ e3;subst e1;have U:=(hl.cell (p:=⟨M,j,none⟩) hM).trans y;have x:=G j t wr g' (F3 u hl);have F:=F4 ts[j];have HS:Hid (bv (ts.take (j+1))=m+bO ts[j]):=by show _=_;rw[nY ts j t,HM.out]
   obtain⟨d,hD⟩:=zx (bO ts[j]);rw[<-hD] at x F HS;have D:(j:Int)<n:=ω;clear hD y u e3;go_wp2_with (go_at_call 46;refine x.mono ?_;rintro e w2 ⟨rfl,l2⟩)
   go_roundw
   case rel=>exact⟨j+1,m+d,π,HS.symm,π,ω,hl.trans (l2.mono hl.size)⟩
   case measure=>simp[intOf]<;>omega
  .have e:j=n:=ω;have D:¬(j:Int)<n:=ω;have o:Hid (m=bv ts):=by show _=_;rw[HM.out,e,HN.out,take_length]
   have HL:=zh hl;clear hl HM;rcases HW.out with⟨h1,h2⟩|⟨rfl,rfl,q,hq,v,h2,h3⟩
   .have HR:Hid (R=min 1000 m):=by show _=_;rw[o.out];exact h2
    have r:K=3->(sg==123)=false:=h1;clear h1 h2 HW
    by_cases hK3:K=3
    .subst hK3;have N:=r rfl;clear r
     by_cases h1000:1000<m
     .have c:(1000:Int)<m:=ω;go_wp2
      go_ret
      exact⟨by rw[HR.out,show min 1000 m=1000 by omega];rfl,HL⟩
     .have c:¬(1000:Int)<m:=ω;go_wp2
      go_ret
      exact⟨by rw[HR.out,show min 1000 m=m by omega];rfl,HL⟩
    .have J:(K==3)=false:=by simp[hK3]
     clear r
     by_cases h1000:1000<m
     .have c:(1000:Int)<m:=ω;go_wp2
      go_ret
      exact⟨by rw[HR.out,show min 1000 m=1000 by omega];rfl,HL⟩
     .have c:¬(1000:Int)<m:=ω;go_wp2
      go_ret
      exact⟨by rw[HR.out,show min 1000 m=m by omega];rfl,HL⟩
   .have H:m<=1000:=by
     have:=BQ ts;rw[v] at this;have:=o.out;omega
    have HR:Hid (R=min 1000 (m*q)):=by show _=_;rw[o.out];exact h2
    obtain⟨P,hP⟩:=zx (m*q);have O:P<=100000:=by
     have:=Nat.mul_le_mul H hq;omega
    have W:(m:Int)*(q:Int)=P:=by rw[hP];simp
    rw[<-hP] at HR;clear hP h2 HW v;rcases h3 with⟨h4,h5⟩|⟨h4,h5⟩
    .obtain rfl:lo=q-1:=ω
     by_cases h1000:1000<P
     .have c:(1000:Int)<P:=ω;go_wp2
      go_ret
      exact⟨by rw[HR.out,show min 1000 P=1000 by omega];rfl,HL⟩
     .have c:¬(1000:Int)<P:=ω;go_wp2
      go_ret
      exact⟨by rw[HR.out,show min 1000 P=P by omega];rfl,HL⟩
    .subst h5;have V:¬(q:Int)<0:=ω
     by_cases h1000:1000<P
     .have c:(1000:Int)<P:=ω;go_wp2
      go_ret
      exact⟨by rw[HR.out,show min 1000 P=1000 by omega];rfl,HL⟩
     .have c:¬(1000:Int)<P:=ω;go_wp2
      go_ret
      exact⟨by rw[HR.out,show min 1000 P=P by omega];rfl,HL⟩
mutual
/-- What a tree that is made is like. -/
def tQ:RT->Prop
 |.bytes _=>True
 |.node k ks=>(k=1\/k=2)/\vu ks/\ks.length<=1000
 |.rep t c lo hi=>tQ t/\(c=123->(0<=lo/\lo<=30)/\(hi=-1\/(lo<=hi/\hi<=30)))
def vu:List RT->Prop
 |[]=>True
 |t::ts=>tQ t/\vu ts
end
mutual
theorem mU:∀(T:RT),tQ T->BP T
 |.bytes S,_=>Ae S
 |.rep t c lo hi,h=>by
  simp only[tQ] at h;have ih:=mU t h.1;intro w g hr;simp only[aV] at hr;obtain⟨hg,B,kv,hT,g',a,hR⟩:=hr
  refine tP [t] χ (λj hj=>by
   have:j=0:=by simpa using hj
   subst this
   exact ih) w g 3 B kv lo hi c.toNat hT _ a (by simp only[bQ];exact⟨g',[],rfl,hR,rfl⟩) _ Zr ?_
  by_cases hc:c=123
  .obtain⟨⟨a1,a2⟩,a3⟩:=h.2 hc;refine .inr ⟨rfl,by rw[hc];rfl,?_⟩;simp only[bO,bv,Zi hc,Nat.add_zero]
   by_cases hh:hi<0
   .refine⟨(lo+1).toNat,ω,rfl,by rw[Zi hh],.inl ⟨hh,ω⟩⟩
   .refine⟨hi.toNat,ω,rfl,by rw[Zh hh],.inr ⟨ω,ω⟩⟩
  .refine .inl ⟨λ_=>?_,?_⟩
   .rw[beq_eq_false_iff_ne];intro e';have h5:c.toNat=123:=ω;exact hc (UInt8.toNat_inj.1 h5)
   simp only[bO,bv,Zh hc,Nat.add_zero]
 |.node k ks,h=>by
  simp only[tQ] at h;obtain⟨hk,h1,h2⟩:=h;have ih:=qO ks h1;intro w g hr;simp only[aV] at hr;obtain⟨hg,B,kv,mn,mx,sg,hT,vs,a,hR⟩:=hr;refine tP ks h2 ih w g k B kv mn mx sg hT vs a hR _ ω (.inl ⟨λe=>ω,?_⟩);simp only[bO]
theorem qO:∀(ts:List RT),vu ts->∀(j:Nat) (hj:j<ts.length),BP ts[j]
 |[],_,j,hj=>by simp at hj
 |t::ts,h,j,hj=>by
  simp only[vu] at h
  cases j with
  |zero=>exact mU t h.1
  |succ j=>exact qO ts h.2 j (by simpa using hj)
end
end Go.Proofs.YtbjabpodkaokjaaGreatDoor
