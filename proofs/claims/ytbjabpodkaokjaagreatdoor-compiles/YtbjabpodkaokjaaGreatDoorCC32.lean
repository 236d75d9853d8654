import Derived.Test.YtbjabpodkaokjaaGreatDoorCC03
set_option linter.all false
set_option maxHeartbeats 4000000
set_option maxRecDepth 100000
open List Nat Go.World Go.Proofs.Tryz
namespace Go.Proofs.YtbjabpodkaokjaaGreatDoor.Sx
def AY (l:List UInt8):∃ m,Goes Md.init l m (dC 94 l)/\ir m (dC 94 l)/\m.Depth=0/\m.Most=0:=by
 match l with
 |[]=>exact⟨Md.init,Goes.refl _ _,⟨by simp[Md.init],by simp[Md.init],.inl ⟨rfl,λc t e=>by simp[dC] at e⟩⟩,rfl,rfl⟩
 |c::t=>
  by_cases q:c=94
  .subst q;have e:Md.init.step (94:UInt8).toNat=Md.init.to 1:=by simp[Md.step,Md.init,Md.chain]
   have et:dC 94 (94::t)=t:=by simp[dC]
   rw[et];refine⟨Md.init.to 1,by rw[<-e];exact Goes.one _ _ _,⟨by simp[Md.init,Md.to],by simp[Md.init,Md.to],.inr (.inl rfl)⟩,rfl,rfl⟩
  .have et:dC 94 (c::t)=c::t:=by simp[dC,q]
   rw[et];exact⟨Md.init,Goes.refl _ _,⟨by simp[Md.init],by simp[Md.init],.inl ⟨rfl,λc' t' e=>by injection e with e _;rw[<-e];exact q⟩⟩,rfl,rfl⟩
def D8 (l:List UInt8):match cz l with
  |.bad r'=>aj Md.init l r'
  |.ok p _=>∃ m,runAll Md.init l=m/\m.Depth=0/\(m.M=0\/m.M=1\/m.M=2\/m.M=15)/\m.Most=aZ p.choices:=by
 obtain⟨m,g,ha,hd,hm⟩:=AY l;have hG:=(Hs (4*(dC 94 l).length+4)).1 m (dC 94 l) ω ha;unfold cz
 cases hR:ay (4*(dC 94 l).length+4) (dC 94 l) with
 |bad r'=>rw[hR] at hG;exact aj.after g hG
 |ok cs r'=>
  rw[hR] at hG;obtain⟨m2,g2,d2,k2,b2,n2⟩:=hG;have a:=g.trans g2;obtain⟨d3,d4⟩:=d2;have hz:m2.Depth=0:=ω;have d:m2.Most=aZ cs:=ω;have b:∀ m3,Goes Md.init l m3 []->runAll Md.init l=m3:=by
   rintro m3 ⟨u,hu,h⟩;rw[append_nil] at hu;rw[hu];exact h
  match r',k2,b2,n2,a with
  |[],k2,_,_,a=>
   simp only[dC,isEmpty_nil,if_true];exact⟨m2,b _ a,hz,by have:=k2.md;omega,d⟩
  |c::t,k2,b2,n2,a=>
   by_cases q:c=36
   .subst q;have e:m2.step (36:UInt8).toNat=m2.to 15:=by rw[iq m2 _ k2.md];simp[Md.chain,hz]
    have g3:Goes Md.init l (m2.to 15) t:=a.trans (by rw[<-e];exact Goes.one _ _ _);have et:dC 36 (36::t)=t:=by simp[dC]
    simp only[et]
    match t,g3 with
    |[],g3=>
     simp only[isEmpty_nil,if_true];exact⟨_,b _ g3,hz,by simp[Md.to],d⟩
    |c'::t',g3=>
     simp only[isEmpty_cons,Bool.false_eq_true,if_false];exact aj.after g3 (aj.cons (by simp[Md.to]) (by simp[Md.step,Md.to]))
   .have et:dC 36 (c::t)=c::t:=by simp[dC,q]
    simp only[et,isEmpty_cons,Bool.false_eq_true,if_false];exact aj.after a (aj.cons (η k2.md) (s_ m2 c t k2 b2 (λh=>n2 t (by rw[h])) (λ_=>hz) (λh=>absurd h q)))
def rS (l:List UInt8) (e p:Int) (h:LT l e p) :
  (200<l.length/\e=4/\p=0) \/
  (l.length<=200/\∃ r',cz l=.bad r'/\e=3/\p=((l.length-r'.length:Nat):Int)) \/
  (l.length<=200/\∃ q,cz l=.ok q []/\20<aZ q.choices/\e=4/\p=0) \/
  (l.length<=200/\∃ q,cz l=.ok q []/\aZ q.choices<=20/\e=0/\p=0):=by
 by_cases hl:200<l.length
 .left
  rcases h with h|h|h|h|h
  .exact h
  all_goals omega
 .right
  have b:l.length<=200:=ω;have a:=D8 l
  cases hR:cz l with
  |bad r'=>
   rw[hR] at a;have:=Cv b a h;exact .inl ⟨b,r',rfl,this⟩
  |ok q r'=>
   rw[hR] at a;obtain⟨m,hm,hd,hM,f⟩:=a
   right
   have c:r'=[]:=by
    unfold cz at hR
    split at hR
    .simp at hR
    .split at hR
     .injection hR with _ hR;exact hR.symm
     .simp at hR
   subst c;have d:∀ i,¬ kd l i:=by
    rintro i ⟨h1,h2,-⟩;have e2:∀ x y:List UInt8,runAll Md.init (x++y)=runAll (runAll Md.init x) y:=λx y=>by simp[runAll]
    have e3:=e2 (l.take (i+1)) (l.drop (i+1));rw[take_append_drop] at e3;have:(runAll Md.init l).M=16:=by rw[e3];exact go _ _ h2
    rw[hm] at this;omega
   rcases h with h|h|h|h|h
   .omega
   .obtain⟨_,i,h,_⟩:=h;exact absurd h (d i)
   .rw[hm] at h;omega
   .rw[hm] at h;exact .inl ⟨b,q,rfl,ω,h.2.2.2.2⟩
   .rw[hm] at h;exact .inr ⟨b,q,rfl,ω,h.2.2.2.2⟩
end Go.Proofs.YtbjabpodkaokjaaGreatDoor.Sx
