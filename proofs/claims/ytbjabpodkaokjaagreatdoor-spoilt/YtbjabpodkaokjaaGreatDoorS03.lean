import Derived.Test.YtbjabpodkaokjaaGreatDoorJ02
set_option linter.unusedVariables false
set_option linter.unusedSimpArgs false
set_option maxHeartbeats 4000000
set_option maxRecDepth 100000
namespace Go.Proofs.YtbjabpodkaokjaaGreatDoor
theorem xor_can {a b c:Nat} (h:a ^^^ c=b ^^^ c):a=b:=by
 have:=congrArg(· ^^^ c)h
 simpa [Nat.xor_assoc] using this
theorem pStep_lin(x y:Nat):pStep(x ^^^ y)=pStep x ^^^ pStep y:=by
 have h1:(x ^^^ y) / 2=x / 2 ^^^ y / 2:=by have:=Nat.xor_div_two_pow(a:=x)(b:=y)(n:=1);simpa using this
 have h2:(x ^^^ y)%2=(x%2) ^^^ (y%2):=by have:=Nat.xor_mod_two_pow(a:=x)(b:=y)(n:=1);simpa using this
 unfold pStep
 rw [h1,h2]
 generalize x / 2=u
 generalize y / 2=v
 rcases Nat.mod_two_eq_zero_or_one x with e|e<;>rcases Nat.mod_two_eq_zero_or_one y with f|f<;>rw [e,f]<;>simp
 ·rw [Nat.xor_assoc]
 ·rw [Nat.xor_assoc,Nat.xor_comm v,←Nat.xor_assoc]
 ·rw [Nat.xor_assoc u,←Nat.xor_assoc 3988292384,Nat.xor_comm 3988292384 v,Nat.xor_assoc v,Nat.xor_self,Nat.xor_zero]
theorem pN_lin(x y:Nat):∀ k,pN(x ^^^ y)k=pN x k ^^^ pN y k
 |0=>rfl
 |k+1=>by rw [pN,pN_lin x y k,pStep_lin];rfl
theorem pStep_zero {x:Nat} (hx:x<4294967296)(h:pStep x=0):x=0:=by
 unfold pStep at h
 have h3:x / 2=3988292384*(x%2):=by
  have:=congrArg(· ^^^ 3988292384*(x%2))h
  simpa [Nat.xor_assoc] using this
 omega
theorem pN_zero {x:Nat} (hx:x<4294967296):∀ k,pN x k=0→x=0
 |0,h=>h
 |k+1,h=>pN_zero hx k(pStep_zero(pN_lt x hx k)h)
theorem pN_shift(y:Nat):∀ k,pN(y*2 ^ k)k=y
 |0=>by simp [pN]
 |k+1=>by
  have:=pN_shift(2*y)k
  rw [pN,show y*2 ^ (k+1)=2*y*2 ^ k by rw [Nat.pow_succ];ac_rfl,this]
  unfold pStep
  rw [show 2*y / 2=y by omega,show 2*y%2=0 by omega]
  simp
theorem xor_zero_eq {a b:Nat} (h:a ^^^ b=0):a=b:=by
 have:=congrArg(· ^^^ b)h
 simpa [Nat.xor_assoc] using this
theorem back8 {u v a b d:Nat} (hu:u<4294967296)(hv:v<4294967296)(ha:a<256)(hb:b<256)(hd:d<16777216)(h:pN(u ^^^ a)8 ^^^ pN(v ^^^ b)8=d):u ^^^ v=d*256 ^^^ (a ^^^ b):=by
 rw [←pN_lin] at h
 have h1:=pN_shift d 8
 have hz:pN((u ^^^ a ^^^ (v ^^^ b)) ^^^ d*2 ^ 8)8=0:=by rw [pN_lin,h,h1,Nat.xor_self]
 have hl:(u ^^^ a ^^^ (v ^^^ b)) ^^^ d*2 ^ 8<4294967296:=xor32(xor32(xor32 hu(by omega))(xor32 hv(by omega)))(by omega)
 have h2:=xor_zero_eq(pN_zero hl 8 hz)
 rw [show d*256=d*2 ^ 8 by omega,←h2]
 rw [show u ^^^ a ^^^ (v ^^^ b)=(u ^^^ v) ^^^ (a ^^^ b)by
  rw [Nat.xor_assoc,←Nat.xor_assoc a v b,Nat.xor_comm a v,Nat.xor_assoc v a b,←Nat.xor_assoc u v],Nat.xor_assoc,Nat.xor_self,Nat.xor_zero]
def difN:List UInt8→List UInt8→Nat
 |a::q,b::r=>difN q r*256 ^^^ (a.toNat ^^^ b.toNat)
 |_,_=>0
theorem x256 {x d:Nat} (hd:d<256):x*256 ^^^ d=x*256+d:=by
 have:=Nat.two_pow_add_eq_or_of_lt(i:=8)(b:=d)(by omega)x
 rw [show 2 ^ 8*x=x*256 by omega] at this
 rw [this]
 refine Nat.eq_of_testBit_eq(fun i=>?_)
 rw [Nat.testBit_xor,Nat.testBit_or]
 by_cases h:i<8
 ·have:(x*256).testBit i=false:=by
   have h8:(256:Nat)=2 ^ 8:=by decide
   rw [h8,Nat.testBit_mul_two_pow,decide_eq_false(by omega),Bool.false_and]
  rw [this];simp
 ·have:d.testBit i=false:=Nat.testBit_lt_two_pow(Nat.lt_of_lt_of_le hd(show 2 ^ 8≤2 ^ i from Nat.pow_le_pow_right(by omega)(by omega)))
  rw [this];simp
theorem xor8 {a b:Nat} (ha:a<256)(hb:b<256):a ^^^ b<256:=Nat.xor_lt_two_pow(n:=8)ha hb
theorem difN_lt:∀ (q r:List UInt8),difN q r<256 ^ q.length
 |[],_=>by simp [difN]
 |a::q,[]=>by simp only [difN];exact Nat.pow_pos(by omega)
 |a::q,b::r=>by
  have h1:=difN_lt q r
  have h2:=xor8 a.toNat_lt b.toNat_lt
  simp only [difN,List.length_cons,Nat.pow_succ]
  rw [x256 h2]
  have:difN q r*256+256≤256 ^ q.length*256:=by
   have:=Nat.mul_le_mul_right 256(Nat.succ_le_of_lt h1)
   omega
  omega
theorem crcF_cons(c:Nat)(a:UInt8)(l:List UInt8):crcF c(a::l)=crcF(pN(c ^^^ a.toNat)8)l:=by
 rw [pN_byte];rfl
theorem win4:∀ (q r:List UInt8),q.length=r.length→q.length≤4→∀ u v,u<4294967296→v<4294967296→crcF u q=crcF v r→u ^^^ v=difN q r
 |[],[],_,_,u,v,_,_,h=>by
  have:u=v:=h
  rw [this,Nat.xor_self];rfl
 |[],b::r,hl,_,_,_,_,_,_=>by simp at hl
 |a::q,[],hl,_,_,_,_,_,_=>by simp at hl
 |a::q,b::r,hl,h4,u,v,hu,hv,h=>by
  rw [crcF_cons,crcF_cons] at h
  simp only [List.length_cons] at hl h4
  have ha:=a.toNat_lt
  have hb:=b.toNat_lt
  have h1:=win4 q r(by omega)(by omega)_ _(pN_lt _(xor32 hu(by omega))8)(pN_lt _(xor32 hv(by omega))8)h
  have h2:=difN_lt q r
  have h3:256 ^ q.length≤256 ^ 3:=Nat.pow_le_pow_right(by omega)(by omega)
  exact back8 hu hv ha hb(by omega)h1
theorem difN_zero:∀ (q r:List UInt8),q.length=r.length→difN q r=0→q=r
 |[],[],_,_=>rfl
 |[],b::r,hl,_=>by simp at hl
 |a::q,[],hl,_=>by simp at hl
 |a::q,b::r,hl,h=>by
  simp only [List.length_cons] at hl
  have h2:=xor8 a.toNat_lt b.toNat_lt
  simp only [difN] at h
  rw [x256 h2] at h
  rw [difN_zero q r(by omega)(by omega),UInt8.toNat_inj.1(xor_zero_eq(show a.toNat ^^^ b.toNat=0 by omega))]
theorem crcF_inj:∀ (s:List UInt8)(u v:Nat),u<4294967296→v<4294967296→crcF u s=crcF v s→u=v
 |[],_,_,_,_,h=>h
 |b::s,u,v,hu,hv,h=>by
  rw [crcF_cons,crcF_cons] at h
  have hb:=b.toNat_lt
  have h1:=crcF_inj s _ _(pN_lt _(xor32 hu(by omega))8)(pN_lt _(xor32 hv(by omega))8)h
  have h2:pN((u ^^^ b.toNat) ^^^ (v ^^^ b.toNat))8=0:=by rw [pN_lin,h1,Nat.xor_self]
  have h3:=xor_zero_eq(pN_zero(xor32(xor32 hu(by omega))(xor32 hv(by omega)))8 h2)
  exact xor_can h3
theorem crcF_append(c:Nat)(l m:List UInt8):crcF c(l++m)=crcF(crcF c l)m:=by simp [crcF]
theorem crc_win {p q r s:List UInt8} (hl:q.length=r.length)(h4:q.length≤4)(h:crc(p++q++s)=crc(p++r++s)):q=r:=by
 have hp:=crcF_lt p 4294967295(by omega)
 have h1:=crcF_lt(p++q++s)4294967295(by omega)
 have h2:=crcF_lt(p++r++s)4294967295(by omega)
 unfold crc at h
 have h3:crcF 4294967295(p++q++s)=crcF 4294967295(p++r++s):=by omega
 rw [crcF_append,crcF_append,crcF_append,crcF_append] at h3
 have h5:=crcF_inj s _ _(crcF_lt _ _ hp)(crcF_lt _ _ hp)h3
 have h6:=win4 q r hl h4 _ _ hp hp h5
 rw [Nat.xor_self] at h6
 exact difN_zero q r hl h6.symm
theorem num4_inj {g:Bool} {a b:Nat} (ha:a<4294967296)(hb:b<4294967296)(h:num4 g a=num4 g b):a=b:=by
 have key:∀ x y:Nat,UInt8.ofNat x=UInt8.ofNat y→x%256=y%256:=fun x y e=>by
  have:=congrArg UInt8.toNat e
  simpa using this
 cases g<;>simp only [num4,if_true,Bool.false_eq_true,if_false,List.cons.injEq,and_true] at h<;>obtain⟨h1,h2,h3,h4⟩:=h<;>have k1:=key _ _ h1<;>have k2:=key _ _ h2<;>have k3:=key _ _ h3<;>have k4:=key _ _ h4<;>omega
theorem num4_len(g:Bool)(n:Nat):(num4 g n).length=4:=by cases g<;>rfl
theorem enc_len(t:Tb)(k:Nat)(g:Bool):(enc t k g).length=(body t k g).length+4:=by simp [enc,num4_len]
structure Tabular(P:Tb→Bool)(cc:List UInt8→Option Nat):Prop where
 f:∀ t,P t=true→∃ c,Fits t c∧1≤c∧cc t.cls=some c
theorem Tabular.fits {P:Tb→Bool} {cc:List UInt8→Option Nat} (h:Tabular P cc):∀ t,P t=true→∃ c,Fits t c:=fun t ht=>let⟨c,hc,_⟩:=h.f t ht;⟨c,hc⟩
theorem body_inj {t t':Tb} {c c' k k':Nat} {g g':Bool} (h:Fits t c)(h':Fits t' c')(hk:k≤1)(hk':k'≤1) {l l':List UInt8} (e:body t k g++l=body t' k' g'++l'):t=t'∧k=k'∧g=g':=by
 have h1:=rfT_wr h hk g l
 have h2:=rfT_wr h' hk' g' l'
 rw [e,h2] at h1
 injection h1 with h1
 injection h1 with h3 h4
 injection h4 with h5 h6
 exact⟨h3.symm,h5.symm,h6.symm⟩
theorem enc_prefix {t t':Tb} {c c' k k':Nat} {g g':Bool} (h:Fits t c)(h':Fits t' c')(hk:k≤1)(hk':k'≤1) {z:List UInt8} (e:enc t k g++z=enc t' k' g'):z=[]:=by
 unfold enc at e
 rw [List.append_assoc] at e
 obtain⟨rfl,rfl,rfl⟩:=body_inj h h' hk hk' e
 have:=congrArg List.length e
 simp [num4_len] at this
 exact this
theorem load_cut {P:Tb→Bool} {cc:List UInt8→Option Nat} (hP:Tabular P cc) {t:Tb} (ht:P t=true) {k:Nat} (hk:k≤1)(g:Bool) {i:Nat} (hi:i<(enc t k g).length):loadM P((enc t k g).take i)=none:=by
 cases h:loadM P((enc t k g).take i)with
 |none=>rfl
 |some t'=>
  exfalso
  obtain⟨k',g',hk',ht',e⟩:=(loadM_some hP.fits).1 h
  obtain⟨c,hc⟩:=hP.fits t ht
  obtain⟨c',hc'⟩:=hP.fits t' ht'
  have:=enc_prefix hc' hc hk' hk(z:=(enc t k g).drop i)(by rw [e];exact List.take_append_drop i _)
  have h2:=congrArg List.length this
  simp at h2
  omega
theorem load_long {P:Tb→Bool} {cc:List UInt8→Option Nat} (hP:Tabular P cc) {t:Tb} (ht:P t=true) {k:Nat} (hk:k≤1)(g:Bool)(x:UInt8):loadM P(enc t k g++[x])=none:=by
 cases h:loadM P(enc t k g++[x])with
 |none=>rfl
 |some t'=>
  exfalso
  obtain⟨k',g',hk',ht',e⟩:=(loadM_some hP.fits).1 h
  obtain⟨c,hc⟩:=hP.fits t ht
  obtain⟨c',hc'⟩:=hP.fits t' ht'
  have:=enc_prefix hc hc' hk hk'(z:=[x])e.symm
  simp at this
theorem load_self {P:Tb→Bool} {cc:List UInt8→Option Nat} (hP:Tabular P cc) {t:Tb} (ht:P t=true) {k:Nat} (hk:k≤1)(g:Bool):loadM P(enc t k g)=some t:=(loadM_some hP.fits).2⟨k,g,hk,ht,rfl⟩
theorem load_sum {P:Tb→Bool} {cc:List UInt8→Option Nat} (hP:Tabular P cc) {t:Tb} (ht:P t=true) {k:Nat} (hk:k≤1)(g:Bool) {z:List UInt8} {t':Tb} (h:loadM P(body t k g++z)=some t'):body t k g++z=enc t k g:=by
 obtain⟨k',g',hk',ht',e⟩:=(loadM_some hP.fits).1 h
 obtain⟨c,hc⟩:=hP.fits t ht
 obtain⟨c',hc'⟩:=hP.fits t' ht'
 have e2:=e
 unfold enc at e2
 obtain⟨rfl,rfl,rfl⟩:=body_inj hc' hc hk' hk e2
 exact e.symm
theorem body_at {t:Tb} {c k:Nat} {g:Bool} (h:Fits t c):(body t k g).getD 7 0=wrA g∧(body t k g).getD 11 0=(pr g c).getD 1 0∧((body t k g).drop 14).take 256=t.cls∧14≤(body t k g).length:=by
 obtain⟨f,b,st,cls,acc,next⟩:=t
 obtain⟨a1,a2,n,hc,hcl,hst,hr⟩:=h
 simp only at *
 have hh:(next.headD []).length=c:=by
  cases next with
  |nil=>simp at n;omega
  |cons r t=>exact(hr r(by simp)).1
 obtain⟨p1,p2,hp⟩:∃ p1 p2,pr g acc.length=[p1,p2]:=by cases g<;>exact⟨_,_,rfl⟩
 obtain⟨q1,q2,hq⟩:∃ p1 p2,pr g c=[p1,p2]:=by cases g<;>exact⟨_,_,rfl⟩
 obtain⟨r1,r2,hr'⟩:∃ p1 p2,pr g st.toNat=[p1,p2]:=by cases g<;>exact⟨_,_,rfl⟩
 have e:body⟨f,b,st,cls,acc,next⟩k g=72::65::83::80::1::UInt8.ofNat k::UInt8.ofNat(bt f+2*bt b)::wrA g::p1::p2::q1::q2::r1::r2::(cls++(acc.map wrA++(next.flatMap(wrRow k g)))):=by
  simp only [body,hd,hh,hp,hq,hr',mk5,List.append_assoc,List.cons_append,List.nil_append]
 rw [e,hq]
 refine⟨rfl,rfl,?_,by simp⟩
 show(cls++_).take 256=cls
 rw [←hcl];simp
theorem pr_turn {c:Nat} (h1:1≤c)(h2:c≤256) {g g':Bool} (hg:g≠g'):(pr g c).getD 1 0≠(pr g' c).getD 1 0:=by
 intro e
 have key:UInt8.ofNat c=UInt8.ofNat(c / 256):=by
  cases g<;>cases g'
  ·exact absurd rfl hg
  ·exact e.symm
  ·exact e
  ·exact absurd rfl hg
 rcases Nat.lt_or_ge c 256 with h|h
 ·rw [Nat.div_eq_of_lt h] at key
  have:=congrArg UInt8.toNat key
  simp only [UInt8.toNat_ofNat',Nat.zero_mod] at this
  omega
 ·have:c=256:=by omega
  subst this
  exact absurd key(by decide)
theorem wrA_inj {g g':Bool} (h:wrA g=wrA g'):g=g':=by
 cases g<;>cases g'
 ·rfl
 ·exact absurd h(by decide)
 ·exact absurd h(by decide)
 ·rfl
theorem getD_mid {α:Type} {p q r s:List α} (hl:q.length=r.length) {i:Nat} (hi:i<p.length∨p.length+q.length≤i)(d:α):(p++q++s).getD i d=(p++r++s).getD i d:=by
 simp only [List.getD_eq_getElem?_getD]
 rcases hi with hi|hi
 ·rw [List.append_assoc,List.append_assoc,List.getElem?_append_left hi,List.getElem?_append_left hi]
 ·rw [List.getElem?_append_right(by simp;omega),List.getElem?_append_right(by simp;omega)]
  simp [hl]
theorem load_win {P:Tb→Bool} {cc:List UInt8→Option Nat} (hP:Tabular P cc) {t:Tb} (ht:P t=true) {k:Nat} (hk:k≤1)(g:Bool) {p q r s:List UInt8} (hb:body t k g=p++q++s)(hl:q.length=r.length)(h4:q.length≤4) {t':Tb} (h:loadM P(p++r++s++num4 g(crc(body t k g)))=some t'):q=r:=by
 obtain⟨k',g',hk',ht',e⟩:=(loadM_some hP.fits).1 h
 obtain⟨c,hc,hc1,hcc⟩:=hP.f t ht
 obtain⟨c',hc',-,hcc'⟩:=hP.f t' ht'
 unfold enc at e
 have hlen:=congrArg List.length e
 simp only [List.length_append,num4_len] at hlen
 obtain⟨e1,e2⟩:=List.append_inj e(by simp;omega)
 obtain⟨b1,b2,b3,b4⟩:=body_at(k:=k)(g:=g)hc
 obtain⟨d1,d2,d3,d4⟩:=body_at(k:=k')(g:=g')hc'
 by_cases hg:g'=g
 ·subst hg
  have h5:=num4_inj(crc_lt _)(crc_lt _)e2
  rw [e1,hb] at h5
  exact(crc_win hl h4 h5.symm)
 ·exfalso
  have hne:¬ (7<p.length∨p.length+q.length≤7):=fun hi=>by
   have:=getD_mid(s:=s)hl hi(0:UInt8)
   rw [←hb,←e1,b1,d1] at this
   exact hg(wrA_inj this).symm
  have h11:=getD_mid(s:=s)hl(i:=11)(p:=p)(.inr(by omega))(0:UInt8)
  rw [←hb,←e1,b2,d2] at h11
  have hcl:t'.cls=t.cls:=by
   rw [←b3,←d3,e1,hb]
   have hx:∀ x:List UInt8,x.length=q.length→(p++x++s).drop 14=s.drop(14-(p.length+q.length)):=fun x hx=>by
    rw [List.drop_append,List.drop_of_length_le(by simp;omega)]
    simp [hx]
   rw [hx q rfl,hx r hl.symm]
  rw [hcl,hcc] at hcc'
  injection hcc' with hcc'
  subst hcc'
  exact pr_turn hc1 hc.cc(fun e=>hg e.symm)h11
def trn(V:Nat→UInt8)(k j:Nat)(E:List UInt8):List UInt8:=E.mapIdx fun i c=>if k≤i∧i<k+j then c ^^^ V(i-k)else c
theorem trn_len(V:Nat→UInt8)(k j:Nat)(E:List UInt8):(trn V k j E).length=E.length:=by simp [trn]
theorem trn_at {V:Nat→UInt8} {k j:Nat} {E:List UInt8} {i:Nat} (h:i<E.length):(trn V k j E)[i]'(by rw [trn_len];exact h)=if k≤i∧i<k+j then E[i] ^^^ V(i-k)else E[i]:=by simp [trn]
theorem trn_same {V:Nat→UInt8} {k j:Nat} {E:List UInt8} (h:∀ i,i<j→V i=0):trn V k j E=E:=by
 refine List.ext_getElem(trn_len _ _ _ _)(fun i h1 h2=>?_)
 rw [trn_at h2]
 split
 ·rename_i q;rw [h _(by omega)];simp
 ·rfl
theorem u8_xor_ne {a b:UInt8} (h:a ^^^ b=a):b=0:=by
 have:=congrArg(a ^^^ ·)h
 simpa [←UInt8.xor_assoc] using this
theorem load_trn {P:Tb→Bool} {cc:List UInt8→Option Nat} (hP:Tabular P cc) {t:Tb} (ht:P t=true) {kind:Nat} (hk:kind≤1)(g:Bool) {V:Nat→UInt8} {k j:Nat} (hj4:j≤4)(hkj:k+j≤(enc t kind g).length)(hs:k<(enc t kind g).length-4→k+j≤(enc t kind g).length-4)(hv:∃ i,i<j∧V i≠0):loadM P(trn V k j(enc t kind g))=none:=by
 obtain⟨i0,hi0,hv0⟩:=hv
 have hlen:=enc_len t kind g
 cases h:loadM P(trn V k j(enc t kind g))with
 |none=>rfl
 |some t'=>
  exfalso
  obtain⟨E,hE⟩:∃ E,E=enc t kind g:=⟨_,rfl⟩
  have hne:trn V k j E≠E:=fun e=>by
   have hi:k+i0<E.length:=by rw [hE];omega
   have h1:=trn_at(V:=V)(k:=k)(j:=j)hi
   have h2:(trn V k j E)[k+i0]'(by rw [trn_len];exact hi)=E[k+i0]:=by simp only [e]
   rw [h2,if_pos⟨by omega,by omega⟩,show k+i0-k=i0 by omega] at h1
   exact hv0(u8_xor_ne h1.symm)
  rw [←hE] at h
  by_cases hks:k<(enc t kind g).length-4
  ·have h4:=hs hks
   have hb:E=body t kind g++num4 g(crc(body t kind g)):=by rw [hE];rfl
   have e1:E=(body t kind g).take k++((body t kind g).drop k).take j++(body t kind g).drop(k+j)++num4 g(crc(body t kind g)):=by
    rw [hb];congr 1
    rw [List.append_assoc,show(body t kind g).drop(k+j)=((body t kind g).drop k).drop j by rw [List.drop_drop],List.take_append_drop,List.take_append_drop]
   have e2:trn V k j E=(body t kind g).take k++((trn V k j E).drop k).take j++(body t kind g).drop(k+j)++num4 g(crc(body t kind g)):=by
    have hl:(trn V k j E).length=E.length:=trn_len _ _ _ _
    have hx:∀ l m n:List UInt8,∀ i(h1:i<l.length),(l++m++n)[i]'(by simp;omega)=l[i]:=fun l m n i h1=>by
     rw [List.getElem_append_left(by simp;omega),List.getElem_append_left h1]
    refine List.ext_getElem ?_(fun i h1 h2=>?_)
    ·have hEl:=congrArg List.length hE
     simp only [List.length_append,List.length_take,List.length_drop,num4_len,hl]
     omega
    ·have hi:i<E.length:=by rw [←hl];exact h1
     have hbl:(body t kind g).length=(enc t kind g).length-4:=by omega
     rcases Nat.lt_or_ge i k with q|q
     ·rw [trn_at hi,if_neg(by omega)]
      have:i<((body t kind g).take k).length:=by simp;omega
      rw [List.getElem_append_left(by simp;omega),List.getElem_append_left(by simp;omega),List.getElem_append_left this]
      simp only [List.getElem_take]
      simp only [hb]
      rw [List.getElem_append_left(by omega)]
     ·rcases Nat.lt_or_ge i(k+j)with q2|q2
      ·rw [List.getElem_append_left(by simp [hl];omega),List.getElem_append_left(by simp [hl];omega),List.getElem_append_right(by simp;omega)]
       simp only [List.getElem_take,List.getElem_drop,List.length_take]
       congr 1;omega
      ·rw [trn_at hi,if_neg(by omega)]
       have hmin:min k(body t kind g).length=k:=by omega
       have hmin2:min j((trn V k j E).length-k)=j:=by rw [hl];omega
       rcases Nat.lt_or_ge i(body t kind g).length with q3|q3
       ·rw [List.getElem_append_left(by simp [hl];omega),List.getElem_append_right(by simp [hl];omega)]
        simp only [List.getElem_drop,List.length_append,List.length_take,List.length_drop,hmin,hmin2]
        simp only [hb]
        rw [List.getElem_append_left q3]
        congr 1;omega
       ·rw [List.getElem_append_right(by simp [hl];omega)]
        simp only [List.length_append,List.length_take,List.length_drop,hmin,hmin2]
        simp only [hb]
        rw [List.getElem_append_right q3]
        congr 1;omega
   rw [e2] at h
   have hl:(trn V k j E).length=E.length:=trn_len _ _ _ _
   have hq:=load_win hP ht hk g(p:=(body t kind g).take k)(q:=((body t kind g).drop k).take j)(r:=((trn V k j E).drop k).take j)(s:=(body t kind g).drop(k+j))(by
    rw [List.append_assoc,show(body t kind g).drop(k+j)=((body t kind g).drop k).drop j by rw [List.drop_drop],List.take_append_drop,List.take_append_drop])(by have hEl:=congrArg List.length hE;simp only [List.length_take,List.length_drop,hl];omega)(by simp only [List.length_take];omega)h
   exact hne(by rw [e2,←hq];exact e1.symm)
  ·have hb:trn V k j E=body t kind g++(trn V k j E).drop(body t kind g).length:=by
    conv=>lhs;rw [←List.take_append_drop(body t kind g).length(trn V k j E)]
    congr 1
    refine List.ext_getElem(by simp [trn_len,hE];omega)(fun i h1 h2=>?_)
    have hi:i<E.length:=by rw [hE];omega
    rw [List.getElem_take,trn_at hi,if_neg(by omega)]
    have hb:E=body t kind g++num4 g(crc(body t kind g)):=by rw [hE];rfl
    simp only [hb]
    rw [List.getElem_append_left h2]
   rw [hb] at h
   have:=load_sum hP ht hk g h
   rw [←hb,←hE] at this
   exact hne this
theorem flat_le {α β:Type} {f:α→List β} {c:Nat}:∀ {l:List α},(∀ x∈l,(f x).length≤c)→(l.flatMap f).length≤c*l.length
 |[],_=>by simp
 |x::l,h=>by
  have h1:=flat_le(l:=l)(fun y hy=>h y(by simp [hy]))
  have h2:=h x(by simp)
  rw [List.flatMap_cons,List.length_append,List.length_cons,Nat.mul_succ]
  omega
theorem pr_len2(g:Bool)(n:Nat):(pr g n).length=2:=by cases g<;>rfl
theorem wrRow_le4(kind:Nat)(g:Bool)(row:List Int):(wrRow kind g row).length≤2+4*row.length:=by
 unfold wrRow
 split
 ·have h1:=runs_len row
  have h2:=flat_le(f:=wrR g)(c:=4)(l:=runs row)(fun x _=>by simp [wrR,pr_len2])
  rw [List.length_append,pr_len2]
  omega
 ·have h2:=flat_le(f:=fun z:Int=>pr g z.toNat)(c:=2)(l:=row)(fun x _=>by rw [pr_len2];omega)
  omega
theorem enc_size {t:Tb} {c kind:Nat} (g:Bool)(h:Fits t c):274≤(enc t kind g).length∧(enc t kind g).length≤300000:=by
 rw [enc_len]
 have h1:=flat_le(f:=wrRow kind g)(c:=1026)(l:=t.next)(fun r hr=>by
  have h2:=wrRow_le4 kind g r
  have h3:=(h.r r hr).1
  have h4:=h.cc
  omega)
 have h5:=h.n
 have h6:=h.a2
 have h7:=h.cls
 simp only [body,hd,mk5,List.length_append,List.length_cons,List.length_nil,pr_len2,List.length_map]
 omega
end Go.Proofs.YtbjabpodkaokjaaGreatDoor
