import Derived.Test.YtbjabpodkaokjaaGreatDoorJ20
set_option linter.unusedVariables false
set_option linter.unusedSimpArgs false
set_option maxHeartbeats 4000000
set_option maxRecDepth 100000
namespace Go.Proofs.YtbjabpodkaokjaaGreatDoor
theorem blM_len {n k:Nat} {t:Tn} (h:TnOk n k t):(blM t).length=n:=(splitM_len _ _ _ _(by simp [bkOf,h.al,h.nl])).trans h.nl
theorem bkOf_at(acc:List Bool) {i:Nat} (h:i<acc.length):(bkOf acc).getD i 0=if acc.getD i false then 1 else 0:=by
 rw [getD_at(by simp [bkOf,h]),getD_at h];simp [bkOf]
theorem bl_stab {n k:Nat} {t:Tn} (h:TnOk n k t)(hn:n≤200) {i j:Nat} (hi:i<n)(hj:j<n)(e:(blM t).getD i 0=(blM t).getD j 0):ac t i=ac t j∧∀ c,c<k→(blM t).getD(nx t i c)0=(blM t).getD(nx t j c)0:=by
 have hi':i<t.next.length:=by rw [h.nl];exact hi
 have hj':j<t.next.length:=by rw [h.nl];exact hj
 constructor
 ·have:=splitM_ref(by rw [h.nl];exact hn)hi' hj' 202(bkOf t.acc)0 e
  rw [bkOf_at _(by rw [h.al];exact hi),bkOf_at _(by rw [h.al];exact hj)] at this
  unfold ac
  generalize t.acc.getD i false=a at this ⊢
  generalize t.acc.getD j false=b at this ⊢
  cases a<;>cases b<;>simp at this ⊢
 ·intro c hc
  have hs:=splitM_stab t.next(by rw [h.nl];exact hn)202(bkOf t.acc)0(by simp [bkOf,h.al,h.nl])(Nat.zero_le _)(by omega)i j hi' hj' e
  unfold lookM at hs
  injection hs with _ hs
  have r1:=(h.r _(List.getElem_mem hi')).1
  have r2:=(h.r _(List.getElem_mem hj')).1
  have h3:=congrArg(fun l=>l[c]?)hs
  simp only [List.getElem?_map] at h3
  rw [List.getElem?_eq_getElem(by rw [r1];exact hc),List.getElem?_eq_getElem(by rw [r2];exact hc)] at h3
  simp only [Option.map_some,Option.some.injEq] at h3
  unfold nx
  rw [getD_at hi',getD_at hj',getD_at(l:=t.next[i])(by rw [r1];exact hc),getD_at(l:=t.next[j])(by rw [r2];exact hc)]
  exact h3
def BisT(n k:Nat)(t:Tn)(R:Nat→Nat→Prop):Prop:=∀ i j,R i j→i<n∧j<n∧ac t i=ac t j∧∀ c,c<k→R(nx t i c)(nx t j c)
theorem bl_bis {n k:Nat} {t:Tn} (h:TnOk n k t)(hn:n≤200) {R:Nat→Nat→Prop} (hR:BisT n k t R) {i j:Nat} (e:R i j):(blM t).getD i 0=(blM t).getD j 0:=by
 refine splitM_bis(by rw [h.nl];exact hn)⟨fun i j e=>?_,fun i j hi hj e=>?_⟩202(bkOf t.acc)0(fun i j e=>?_)i j e
 ·rw [h.nl];exact⟨(hR i j e).1,(hR i j e).2.1⟩
 ·have r1:=(h.r _(List.getElem_mem hi)).1
  have r2:=(h.r _(List.getElem_mem hj)).1
  refine⟨r1.trans r2.symm,fun c h1 h2=>?_⟩
  have:=(hR i j e).2.2.2 c(by omega)
  unfold nx at this
  rwa [getD_at hi,getD_at hj,getD_at h1,getD_at h2] at this
 ·obtain⟨h1,h2,h3,-⟩:=hR i j e
  rw [bkOf_at _(by rw [h.al];exact h1),bkOf_at _(by rw [h.al];exact h2)]
  unfold ac at h3
  rw [h3]
theorem colM_at {n k:Nat} {t:Tn} (h:TnOk n k t)(bl:List UInt8) {c d:Nat}:colM bl t.next c=colM bl t.next d↔∀ q,q<n→bl.getD(nx t q c)0=bl.getD(nx t q d)0:=by
 constructor
 ·intro e q hq
  have hq':q<t.next.length:=by rw [h.nl];exact hq
  have h3:=congrArg(fun l=>l[q]?)e
  simp only [colM,List.getElem?_map,List.getElem?_eq_getElem hq',Option.map_some,Option.some.injEq] at h3
  unfold nx
  rw [getD_at hq']
  exact h3
 ·intro e
  unfold colM
  refine List.map_congr_left(fun row hr=>?_)
  obtain⟨q,hq,rfl⟩:=List.mem_iff_getElem.1 hr
  have:=e q(by rw [←h.nl];exact hq)
  unfold nx at this
  rwa [getD_at hq] at this
structure LsT(n k:Nat)(t:Tn)(n' k':Nat)(L:Tn):Prop where
 nn:n'≤n
 ok:TnOk n' k' L
 st:∀ R,BisT n' k' L R→∀ a b,R a b→a=b
 cl:∀ c d,c<k'→d<k'→c≠d→∃ i,i<n'∧nx L i c≠nx L i d
theorem leastM_lst {n k:Nat} {t:Tn} (h:TnFull n k t)(hn:n≤200):∃ n' k',LsT n k t n' k'(leastM t):=by
 obtain⟨n',k',hn',hok'⟩:=leastM_ok h.ok
 have hok:=h.ok
 have hbl:=blM_len hok
 have h1:=hok.n1
 obtain⟨x,hx⟩:=leastB_some t(blM t)
 have hL:leastM t=⟨t.front,t.back,(colsM t(blM t)).map(ixL(metL [](colsM t(blM t)))),x.1.map fun b=>t.acc.getD((blM t).idxOf b)false,x.2⟩:=by unfold leastM;rw [hx]
 have hst:∀ {i j},i<n→j<n→(blM t).getD i 0=(blM t).getD j 0→ac t i=ac t j∧∀ c,c<k→(blM t).getD(nx t i c)0=(blM t).getD(nx t j c)0:=fun hi hj e=>bl_stab hok hn hi hj e
 have hbis:∀ R,BisT n k t R→∀ i j,R i j→(blM t).getD i 0=(blM t).getD j 0:=fun R hR i j e=>bl_bis hok hn hR e
 obtain⟨bl,hb⟩:∃ bl,bl=blM t:=⟨_,rfl⟩
 rw [←hb] at hbl hx hL hst hbis
 obtain⟨cols,hcs⟩:∃ cols,cols=colsM t bl:=⟨_,rfl⟩
 obtain⟨olds,hol⟩:∃ olds,olds=oldsM t.cls cols:=⟨_,rfl⟩
 unfold leastB at hx
 rw [←hcs,←hol] at hx
 rw [←hcs] at hL
 have hcl:cols.length=t.cls.length:=by rw [hcs];simp [colsM]
 have hoc:olds.length=(metL [] cols).length:=by rw [hol];simp [oldsM]
 have hcat:∀ i(hi:i<t.cls.length),cols[i]'(by rw [hcl];exact hi)=colM bl t.next t.cls[i]:=fun i hi=>by simp only [hcs,colsM,List.getElem_map]
 have hO1:∀ c'(hc:c'<olds.length),olds[c']<k∧colM bl t.next olds[c']=(metL [] cols)[c']'(by rw [←hoc];exact hc):=fun c' hc=>by
  have hm:(metL [] cols)[c']'(by rw [←hoc];exact hc)∈cols:=by
   rcases mem_metL.1(List.getElem_mem(l:=metL [] cols)(n:=c')(by rw [←hoc];exact hc))with q|q
   ·simp at q
   ·exact q
  have hi:=ixL_lt hm
  have hi':ixL cols((metL [] cols)[c']'(by rw [←hoc];exact hc))<t.cls.length:=by rw [←hcl];exact hi
  have e:olds[c']=t.cls[ixL cols((metL [] cols)[c']'(by rw [←hoc];exact hc))]:=by
   simp only [hol,oldsM,List.getElem_map]
   exact getD_at hi' 0
  rw [e]
  exact⟨hok.ck _(List.getElem_mem _),by rw [←hcat _ hi',ixL_get hm]⟩
 have hO2:∀ c,c<k→∃ c',∃ hc:c'<olds.length,∀ q,q<n→bl.getD(nx t q olds[c'])0=bl.getD(nx t q c)0:=fun c hc=>by
  obtain⟨i,hi,e⟩:=List.mem_iff_getElem.1(h.su c hc)
  have hm:colM bl t.next c∈metL [] cols:=mem_metL.2(.inr(by rw [←e,←hcat i hi];exact List.getElem_mem _))
  have hlt:=ixL_lt hm
  refine⟨ixL(metL [] cols)(colM bl t.next c),by rw [hoc];exact hlt,?_⟩
  refine(colM_at hok bl).1 ?_
  rw [(hO1 _ _).2,ixL_get hm]
 obtain⟨hr,hp⟩:=stsM_told(show RwInv _ _ [_] 0 [] from⟨rfl,Nat.zero_le _,fun i q hi=>absurd hi(by omega)⟩)hx
 have hnd:=stsM_nodup(show [_].Nodup by simp)hx
 have hrep:∀ j,j<n→bl.idxOf(bl.getD j 0)<n∧bl.getD(bl.idxOf(bl.getD j 0))0=bl.getD j 0:=fun j hj=>by
  have hm:bl.getD j 0∈bl:=by rw [getD_at(by rw [hbl];exact hj)];exact List.getElem_mem _
  have hi:ixL bl(bl.getD j 0)<bl.length:=ixL_lt hm
  refine⟨by rw [←hbl];exact hi,?_⟩
  have:=ixL_get hm
  rw [getD_at(i:=bl.idxOf(bl.getD j 0))hi]
  exact this
 have hlead:∀ j r,j<n→r<k→leadM t bl(bl.getD j 0)r=bl.getD(nx t j r)0:=fun j r hj hrk=>by
  obtain⟨q1,q2⟩:=hrep j hj
  exact(hst q1 hj q2).2 r hrk
 have hall:∀ j,j<n→bl.getD j 0∈x.1:=by
  intro j
  induction j using Nat.strongRecOn with
  |_ j ih=>
   intro hj
   rcases Nat.eq_zero_or_pos j with rfl|h0
   ·exact hp.subset(by simp)
   ·obtain⟨i,c,k1,k2,k3⟩:=h.rc j h0 hj
    have hi:=ih i k1(by omega)
    obtain⟨c',hc',e⟩:=hO2 c k2
    obtain⟨a,ha,ea⟩:=List.mem_iff_getElem.1 hi
    have:=(hr.r a _ ha(List.getElem?_eq_getElem ha)).2 olds[c'](List.getElem_mem _)
    rw [ea,hlead i _(by omega)(hO1 c' hc').1,e i(by omega),k3] at this
    exact this
 have hlen1:n'=x.1.length:=by have:=hok'.al;rw [hL] at this;simpa using this.symm
 have hxl:x.2.length=x.1.length:=hr.l
 have hlen2:k'=olds.length:=by
  have h0:0<x.1.length:=by have:=hok'.n1;omega
  have e:=(hr.r 0 _ h0(List.getElem?_eq_getElem h0)).1
  have:=hok'.row(i:=0)(by have:=hok'.n1;omega)
  rw [hL] at this
  simp only [List.getD_eq_getElem?_getD,e,Option.getD_some,List.length_map] at this
  exact this.symm
 have hhom:∀ j c',j<n→(hc:c'<olds.length)→nx(leastM t)(ixL x.1(bl.getD j 0))c'=ixL x.1(bl.getD(nx t j olds[c'])0):=fun j c' hj hc=>by
  have hm:=hall j hj
  have hi:=ixL_lt hm
  have e:=(hr.r _ _ hi(by rw [List.getElem?_eq_getElem hi,ixL_get hm])).1
  have e':x.2.getD(ixL x.1(bl.getD j 0)) []=olds.map(fun r=>ixL x.1(leadM t bl(bl.getD j 0)r)):=by rw [List.getD_eq_getElem?_getD,e,Option.getD_some]
  rw [hL,←hlead j _ hj(hO1 c' hc).1]
  show(x.2.getD(ixL x.1(bl.getD j 0)) []).getD c' 0=_
  rw [e',getD_at(by simpa using hc)]
  simp
 have hacc:∀ j,j<n→ac(leastM t)(ixL x.1(bl.getD j 0))=ac t j:=fun j hj=>by
  have hm:=hall j hj
  have hi:=ixL_lt hm
  obtain⟨q1,q2⟩:=hrep j hj
  rw [←(hst q1 hj q2).1,hL]
  unfold ac
  rw [getD_at(by simpa using hi)]
  simp only [List.getElem_map,ixL_get hm]
 have hsur:∀ a,a<n'→∃ j,j<n∧ixL x.1(bl.getD j 0)=a:=fun a ha=>by
  have ha':a<x.1.length:=by omega
  have hP:∀ q∈x.1,∃ j,j<n∧bl.getD j 0=q:=stsM_all(fun q=>∃ j,j<n∧bl.getD j 0=q)(fun q r hq hr=>by
   obtain⟨j,hj,rfl⟩:=hq
   obtain⟨c,hc,rfl⟩:=List.mem_iff_getElem.1 hr
   have hk:=(hO1 c hc).1
   exact⟨nx t j olds[c],hok.nx_lt hj hk,(hlead j _ hj hk).symm⟩)(fun q hq=>by simp at hq;exact⟨0,by omega,by rw [hq];simp⟩)hx
  obtain⟨j,hj,e⟩:=hP _(List.getElem_mem ha')
  exact⟨j,hj,by rw [e];exact ixL_at hnd ha'⟩
 refine⟨n',k',hn',hok',fun R hR a b hab=>?_,fun c d hc hd hcd=>?_⟩
 ·obtain⟨ha,hb',-⟩:=hR a b hab
  obtain⟨i,hi,rfl⟩:=hsur a ha
  obtain⟨j,hj,rfl⟩:=hsur b hb'
  have:bl.getD i 0=bl.getD j 0:=by
   refine hbis(fun i j=>i<n∧j<n∧R(ixL x.1(bl.getD i 0))(ixL x.1(bl.getD j 0)))?_ i j⟨hi,hj,hab⟩
   rintro i j⟨hi,hj,hij⟩
   obtain⟨-,-,e1,e2⟩:=hR _ _ hij
   rw [hacc i hi,hacc j hj] at e1
   refine⟨hi,hj,e1,fun c hc=>⟨hok.nx_lt hi hc,hok.nx_lt hj hc,?_⟩⟩
   obtain⟨c',hc',e⟩:=hO2 c hc
   have:=e2 c'(by rw [hlen2];exact hc')
   rwa [hhom i c' hi hc',hhom j c' hj hc',e i hi,e j hj] at this
  rw [this]
 ·have hc':c<olds.length:=by omega
  have hd':d<olds.length:=by omega
  refine Classical.byContradiction fun hne=>hcd ?_
  have hall2:∀ i,i<n'→nx(leastM t)i c=nx(leastM t)i d:=fun i hi=>Classical.byContradiction fun q=>hne⟨i,hi,q⟩
  have:colM bl t.next olds[c]=colM bl t.next olds[d]:=(colM_at hok bl).2(fun q hq=>by
   have e:=hall2(ixL x.1(bl.getD q 0))(by rw [hlen1];exact ixL_lt(hall q hq))
   rw [hhom q c hq hc',hhom q d hq hd'] at e
   exact ixL_inj(hall _(hok.nx_lt hq(hO1 c hc').1))(hall _(hok.nx_lt hq(hO1 d hd').1))e)
  rw [(hO1 c hc').2,(hO1 d hd').2] at this
  exact(List.getElem_inj(metL_nodup List.nodup_nil cols)).1 this
end Go.Proofs.YtbjabpodkaokjaaGreatDoor
