import Derived.Test.YtbjabpodkaokjaaGreatDoorCC03
set_option linter.all false
set_option maxHeartbeats 4000000
set_option maxRecDepth 100000
open List Nat Go.World Go.Proofs.Tryz
namespace Go.Proofs.YtbjabpodkaokjaaGreatDoor.Sx
open Go.RowKit
def KE {w:World}{S:Nat->Prop}{p:aO}{cells:List Value} (h:eY w S p cells):∃ s:cj,cells=s.cells:=by
 obtain⟨g,B,cs⟩:=p;simp only[eY] at h;obtain⟨gv,x0,x1,x2,x3,cv,rfl,⟨vs,hr,_⟩,_,hc⟩:=h;have hg:∃ a n c,gv=.slice a n c:=by
  obtain⟨_,hr⟩:=hr;rcases hr with⟨rfl,_⟩|⟨g,b,d,rfl,_⟩
  .exact⟨_,_,_,rfl⟩
  .exact⟨_,_,_,rfl⟩
 have hv:∃ a n c,cv=.slice a n c:=by
  obtain⟨_,hr⟩:=hc;rcases hr with⟨rfl,_⟩|⟨g,b,d,rfl,_⟩
  .exact⟨_,_,_,rfl⟩
  .exact⟨_,_,_,rfl⟩
 obtain⟨a,n,c,rfl⟩:=hg;obtain⟨a',n',c',rfl⟩:=hv;exact⟨⟨a,n,c,x0,x1,x2,x3,a',n',c'⟩,rfl⟩
theorem xy {w:World}{S:Nat->Prop}:∀(ps:List aO) (css:List (List Value)),dl w S ps css->∃ vs:List cj,css=vs.map cj.cells/\vs.length=ps.length/\∀(k:Nat) (h1:k<vs.length) (h2:k<ps.length),eY w S ps[k] vs[k].cells
 |[],css,h=>by
  simp only[dl] at h;subst h;exact⟨[],rfl,rfl,λk h1=>by simp at h1⟩
 |p::ps,css,h=>by
  simp only[dl] at h;obtain⟨c,a,rfl,h1,h2⟩:=h;obtain⟨s,rfl⟩:=KE h1;obtain⟨vs,rfl,hl,hv⟩:=xy ps a h2;refine⟨s::vs,rfl,by simp[hl],λk k1 k2=>?_⟩
  cases k with
  |zero=>exact h1
  |succ k=>exact hv k (by simpa using k1) (by simpa using k2)
theorem qT {w:World}{S:Nat->Prop}:∀(cs:List (List aO)) (vs:List Value),cY w S cs vs->∃ xs:List (Option Addr×Nat×Nat),vs=xs.map (λx=>Value.slice x.1 x.2.1 x.2.2)/\xs.length=cs.length/\∀(k:Nat) (h1:k<xs.length) (h2:k<cs.length),mE w S cs[k] (.slice xs[k].1 xs[k].2.1 xs[k].2.2)
 |[],vs,h=>by
  simp only[cY] at h;subst h;exact⟨[],rfl,rfl,λk h1=>by simp at h1⟩
 |c::cs,vs,h=>by
  simp only[cY] at h;obtain⟨v,b,rfl,h1,h2⟩:=h;have hc:mE w S c v:=h1;have hf:∃ a n q,v=.slice a n q:=by
   obtain⟨e,⟨_,hr⟩,_⟩:=h1;rcases hr with⟨rfl,_⟩|⟨g,f,d,rfl,_⟩
   .exact⟨_,_,_,rfl⟩
   .exact⟨_,_,_,rfl⟩
  obtain⟨a,n,q,rfl⟩:=hf;obtain⟨xs,rfl,hl,hv⟩:=qT cs b h2;refine⟨(a,n,q)::xs,rfl,by simp[hl],λk k1 k2=>?_⟩
  cases k with
  |zero=>exact hc
  |succ k=>exact hv k (by simpa using k1) (by simpa using k2)
end Go.Proofs.YtbjabpodkaokjaaGreatDoor.Sx
