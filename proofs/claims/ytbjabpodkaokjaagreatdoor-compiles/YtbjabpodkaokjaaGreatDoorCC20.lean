import Derived.Test.YtbjabpodkaokjaaGreatDoorCC19
set_option linter.all false
set_option maxHeartbeats 4000000
set_option maxRecDepth 100000
open List Nat Go.World Go.Proofs.Tryz
namespace Go.Proofs.YtbjabpodkaokjaaGreatDoor
open Sx (aO dw RT rP fO rC fE dp gD sE tm ay bB dA bV aJ)
variable {n:Nat}{p q:Rp}{r:List UInt8}
theorem IX (t:RT) (cs:List dw):jb (gD t cs)=jb t+3*cs.length:=by
 induction cs generalizing t with
 |nil=>simp[gD]
 |cons c cs ih=>rw[gD,ih];simp only[jb,length_cons];omega
def Lw:∀ ps:List aO,jb (rC ps)<=iD (fO ps)+1
 |[]=>by simp[rC,fO,jb,iD]
 |[p]=>by simp only[rC,fO,iD];omega
 |p::q::ps=>by simp only[rC,fO,jb];omega
def Gp:∀ cs:List (List aO),jb (dp cs)<=iD (fE cs)+1
 |[]=>by simp[dp,fE,jb,iD]
 |[c]=>by simp only[dp,fE,iD];omega
 |c::d::cs=>by simp only[dp,fE,jb];omega
def xQ {cs:List dw}{r r':List UInt8} (h:aJ n r=.ok cs r'):3*cs.length+8*r'.length<=8*r.length:=by
 induction n generalizing r cs with
 |zero=>simp[Sx.aJ] at h
 |succ n ih=>
  simp only[Sx.aJ] at h
  split at h
  .split at h
   .split at h
    .rename_i h1;injection h with e1 e;subst e;subst e1;have:=ih h1;simp;omega
    .simp at h
   .split at h
    .split at h
     .simp at h
     .rename_i h1;have:=Sx.gA h1
      split at h
      .rename_i h2;injection h with e1 e;subst e;subst e1;have:=ih h2;simp;omega
      .simp at h
    .injection h with e1 e;subst e;subst e1;simp
  .injection h with e1 e;subst e;subst e1;simp
def Mh (n:Nat) :
  (∀ r cs r',ay n r=.ok cs r'->iD (fE cs)+8*r'.length<=8*r.length+3) /\
  (∀ r ps r',bB n r=.ok ps r'->iD (fO ps)+8*r'.length<=8*r.length) /\
  (∀ r p r',dA n r=.ok p r'->jb (rP p)+8*r'.length+7<=8*r.length) /\
  (∀ r g B r',bV n r=.ok (g,B) r'->jb (pk g B)+8*r'.length+7<=8*r.length):=by
 induction n with
 |zero=>exact⟨λr cs r' h=>by simp[Sx.ay] at h,λr cs r' h=>by simp[Sx.bB] at h,λr cs r' h=>by simp[Sx.dA] at h,λr g B r' h=>by simp[Sx.bV] at h⟩
 |succ n ih=>
  obtain⟨i1,i2,i3,i4⟩:=ih;refine⟨λr cs r' h=>?_,λr ps r' h=>?_,λr p r' h=>?_,λr g B r' h=>?_⟩
  .simp only[Sx.ay] at h
   split at h
   .simp at h
   .rename_i c r1 h1;have l1:=i2 _ _ _ h1;have l0:=Lw c
    split at h
    .split at h
     .rename_i h2;injection h with e1 e2;subst e1;subst e2;have l2:=i1 _ _ _ h2;simp only[fE,iD,length_cons] at *;omega
     .simp at h
    .injection h with e1 e2;subst e1;subst e2;simp only[fE,iD];omega
  .simp only[Sx.bB] at h
   split at h
   .split at h
    .simp at h
    .rename_i h1;have l1:=i3 _ _ _ h1
     split at h
     .rename_i h2;injection h with e1 e2;subst e1;subst e2;have l2:=i2 _ _ _ h2;simp only[fO,iD];omega
     .simp at h
   .injection h with e1 e2;subst e1;subst e2;simp[fO,iD]
  .simp only[Sx.dA] at h
   split at h
   .simp at h
   .rename_i g S r1 h1;have l1:=i4 _ _ _ _ h1
    split at h
    .rename_i h2;injection h with e1 e2;subst e1;subst e2;have l2:=xQ h2;rw[BN,IX];omega
    .simp at h
  .simp only[Sx.bV] at h
   match r,h with
   |c::t,h=>
    simp only at h
    split at h
    .split at h
     .simp at h
     .rename_i a r1 h1;have l1:=i1 _ _ _ h1
      split at h
      .injection h with e1 e2;injection e1 with e1 _;subst e1;subst e2;have:=Gp a;have b:jb (pk a B)<=jb (dp a):=by
        cases a with
        |nil=>simp[pk,dp,jb,iD]
        |cons c cs=>exact zq
       simp at *;omega
      .simp at h
    .split at h
     .split at h
      .rename_i h1;injection h with e1 e2;injection e1 with e1 _;subst e1;subst e2;have:=Sx.pR h1;simp[pk,jb];omega
      .simp at h
     .split at h
      .split at h
       .rename_i h1;injection h with e1 e2;injection e1 with e1 _;subst e1;subst e2;have:=Sx.oB h1;simp[pk,jb];omega
       .simp at h
      .split at h
       .injection h with e1 e2;injection e1 with e1 _;subst e1;subst e2;simp[pk,jb];omega
       .injection h with e1 e2;injection e1 with e1 _;subst e1;subst e2;simp[pk,jb];omega
def DL {s:List UInt8}{p:Sx.sT} (h:Sx.cz s=.ok p r):jb (dp p.choices)<=8*s.length+4:=by
 have hl:(Sx.dC 94 s).length<=s.length:=by
  cases s with
  |nil=>exact zq
  |cons a t=>
   simp only[Sx.dC]
   split
   .simp
   .exact zq
 unfold Sx.cz at h
 split at h
 .simp at h
 .rename_i cs r' hc
  split at h
  .injection h with e _;subst e;have h1:=(Mh _).1 _ _ _ hc;have h2:=Gp cs;show jb (dp cs)<=_;omega
  .simp at h
def Mi:∀ {ps:List aO},jn (fO ps)->ny (rC ps)
 |[],_=>by simp[rC,ny,jn]
 |[p],h=>by simp only[fO,jn] at h;simp only[rC];exact h.1
 |p::q::ps,h=>by simp only[rC,ny];simpa only [fO] using h
def JP:∀ {cs:List (List aO)},jn (fE cs)->ny (dp cs)
 |[],_=>by simp[dp,ny,jn]
 |[c],h=>by simp only[fE,jn] at h;simp only[dp];exact h.1
 |c::d::cs,h=>by simp only[dp,ny];simpa only [fE] using h
theorem Gq {t:RT} (ht:ny t):∀ {cs:List dw},(∀ c∈cs,gI c)->ny (gD t cs)
 |[],_=>ht
 |c::cs,h=>by
  rw[gD];refine Gq (t:=.rep t c.sign (sE c) (tm c)) ?_ (λd hd=>h d (by simp[hd]));simp only[ny];refine⟨ht,?_⟩;rcases h c χ with q|q|q|⟨q,a1,a2,a3⟩
  .exact .inl q
  .exact .inr (.inl q)
  .exact .inr (.inr (.inl q))
  .refine .inr (.inr (.inr ⟨q,?_,?_⟩))
   .unfold sE;rw[Zi q];exact⟨a1,a2⟩
   .unfold sE tm;rw[Zi q,Zi q];exact a3
mutual
/-- What is read makes trees as they should be. -/
theorem Mj:∀ p:aO,iX p->ny (rP p)
 |.mk g S cs,h=>by
  simp only[iX] at h;rw[BN];have hb:ny (pk g S):=by
   match g,h.2 with
   |[],_=>simp[pk,ny]
   |c::gs,h2=>exact JP (Gr (c::gs) h2)
  exact Gq hb h.1
theorem JQ:∀ ps:List aO,dW ps->jn (fO ps)
 |[],_=>by simp[fO,jn]
 |p::ps,h=>by
  simp only[dW] at h;simp only[fO,jn];exact⟨Mj p h.1,JQ ps h.2⟩
theorem Gr:∀ cs:List (List aO),aX cs->jn (fE cs)
 |[],_=>by simp[fE,jn]
 |c::cs,h=>by
  simp only[aX] at h;simp only[fE,jn];exact⟨Mi (JQ c h.1),Gr cs h.2⟩
end
open Sx (RT)
structure Xn (n:Nat) (x:Rx):Prop where
 s:x.sets.length=n
 f:x.fol.length=n
structure Pn (n:Nat) (p:Rp):Prop where
 f:∀ i∈p.first,i<n
 l:∀ i∈p.last,i<n
def Pn.mono {n m:Nat} (h:Pn n p) (hm:n<=m):Pn m p:=⟨λi q=>by have:=h.f i q;omega,λi q=>by have:=h.l i q;omega⟩
def Pn.nil (n:Nat) (e:Bool):Pn n ⟨e,[],[]⟩:=⟨λi q=>by simp at q,λi q=>by simp at q⟩
def Pn.beh (h:Pn n p) (g:Pn n q):Pn n (cE p q):=by
 refine⟨λi hi=>?_,λi hi=>?_⟩
 .unfold cE at hi
  simp only at hi
  split at hi
  .rcases mem_append.1 hi with hi|hi
   .exact h.f i hi
   .exact g.f i hi
  .exact h.f i hi
 .unfold cE at hi
  simp only at hi
  split at hi
  .rcases mem_append.1 hi with hi|hi
   .exact h.l i hi
   .exact g.l i hi
  .exact g.l i hi
def Pn.alt (h:Pn n p) (g:Pn n q):Pn n (sG p q):=
 ⟨λi hi=>(mem_append.1 hi).elim (h.f i) (g.f i),λi hi=>(mem_append.1 hi).elim (h.l i) (g.l i)⟩
theorem Pn.may (h:Pn n p):Pn n p.may:=⟨h.f,h.l⟩
theorem Xn.beh {x:Rx} (h:Xn n x) (p q:Rp):Xn n (x.beh p q):=⟨h.s,by unfold Rx.beh;simp only;rw[kK];exact h.f⟩
structure MO (f:RM) (k:Nat):Prop where
 b:∀ n x,Xn n x->Xn (n+k) (f x).2/\Pn (n+k) (f x).1
section
variable {f:RM}{k:Nat} (h:MO f k)
include h
end
open Sx (aO dw RT rP fO rC fE dp gD sE tm jR)
mutual
/-- The kinds of its nodes. -/
def xR:RT->Prop
 |.bytes _=>True
 |.node k ks=>(k=1\/k=2)/\lS ks
 |.rep t _ _ _=>xR t
def lS:List RT->Prop
 |[]=>True
 |t::ts=>xR t/\lS ts
end
def Ml:∀ {ps:List aO},lS (fO ps)->xR (rC ps)
 |[],_=>by simp[rC,xR,lS]
 |[p],h=>by simp only[fO,lS] at h;simp only[rC];exact h.1
 |p::q::ps,h=>by simp only[rC,xR];exact⟨.inl trivial,by simpa only [fO] using h⟩
def JR:∀ {cs:List (List aO)},lS (fE cs)->xR (dp cs)
 |[],_=>by simp[dp,xR,lS]
 |[c],h=>by simp only[fE,lS] at h;simp only[dp];exact h.1
 |c::d::cs,h=>by simp only[dp,xR];exact⟨.inr trivial,by simpa only [fE] using h⟩
theorem Gs {t:RT} (ht:xR t):∀ {cs:List dw},xR (gD t cs)
 |[]=>ht
 |c::cs=>by
  rw[gD];exact Gs (t:=.rep t c.sign (sE c) (tm c)) (by simp only[xR];exact ht)
mutual
theorem Mm:∀ p:aO,xR (rP p)
 |.mk g S cs=>by
  rw[BN];have hb:xR (pk g S):=by
   match g with
   |[]=>simp[pk,xR]
   |c::gs=>exact JR (Gt (c::gs))
  exact Gs hb
theorem JS:∀ ps:List aO,lS (fO ps)
 |[]=>by simp[fO,lS]
 |p::ps=>by
  simp only[fO,lS];exact⟨Mm p,JS ps⟩
theorem Gt:∀ cs:List (List aO),lS (fE cs)
 |[]=>by simp[fE,lS]
 |c::cs=>by
  simp only[fE,lS];exact⟨Ml (JS c),Gt cs⟩
end
def IY (t:RT):1<=jb t:=by cases t<;>simp only[jb]<;>omega
theorem xS:∀ ts:List RT,2*ts.length<=iD ts
 |[]=>by simp[iD]
 |t::ts=>by have:=xS ts;have:=IY t;simp only[iD,length_cons];omega
mutual
theorem Gu:∀ t:RT,ny t->xR t->jb t<=2000->tQ t
 |.bytes _,_,_,_=>by simp[tQ]
 |.rep t c l h,hr,hk,hw=>by
  simp only[ny] at hr;simp only[xR] at hk;simp only[jb] at hw;simp only[tQ];refine⟨Gu t hr.1 hk ω,λe=>?_⟩;rcases hr.2 with q|q|q|q
  .rw[e] at q;cases q
  .rw[e] at q;cases q
  .rw[e] at q;cases q
  .exact q.2
 |.node k ks,hr,hk,hw=>by
  simp only[ny] at hr;simp only[xR] at hk;simp only[jb] at hw;simp only[tQ];exact⟨hk.1,Gv ks hr hk.2 ω,by have:=xS ks;omega⟩
theorem Gv:∀ ts:List RT,jn ts->lS ts->iD ts<=2000->vu ts
 |[],_,_,_=>by simp[vu]
 |t::ts,hr,hk,hw=>by
  simp only[jn] at hr;simp only[lS] at hk;simp only[iD] at hw;simp only[vu];exact⟨Gu t hr.1 hk.1 ω,Gv ts hr.2 hk.2 ω⟩
end
end Go.Proofs.YtbjabpodkaokjaaGreatDoor
