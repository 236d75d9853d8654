import Derived.Test.YtbjabpodkaokjaaGreatDoorJ20
import Derived.Test.YtbjabpodkaokjaaGreatDoorJ35
set_option linter.unusedVariables false
set_option linter.unusedSimpArgs false
set_option maxHeartbeats 4000000
set_option maxRecDepth 100000
namespace Go.Proofs.YtbjabpodkaokjaaGreatDoor
open Sx (Prt Cnt)
theorem onB_mem:∀(x:Nat),x<18446744073709551616→∀ i,i∈onB x↔x.testBit i=true:=by
 intro x
 induction x using Nat.strongRecOn with
 |_ x ih=>
  intro h i
  by_cases h0:x=0
  ·subst h0;rw[onB_zero];simp
  ·rw[onB_pos h0]
   obtain⟨m,h1,-⟩:=Lib.ctzFrom_spec 64 x (by omega) (by simpa using h)
   have h2:low x=Lib.ctzFrom 64 x:=by simp[low,Lib.ctz,h0]
   rw[←h2] at h1
   have hl:=off1_lt h0
   rw[List.mem_cons,ih _ hl (by omega)]
   obtain⟨k,hk⟩:∃ k,k=low x:=⟨_,rfl⟩
   rw[←hk] at h1 ⊢
   have hp:0<2 ^ k:=Nat.pow_pos (by omega)
   have hx:x=2 ^ k*(2*m+1):=by rw[h1]
   have e1:x / 2 ^ k=2*m+1:=by rw[hx,Nat.mul_div_cancel_left _ hp]
   have hm:2 ^ k*(2*m+1)=2 ^ k*(2*m)+2 ^ k:=by rw[Nat.mul_add,Nat.mul_one]
   have e2:(x-1) / 2 ^ k=2*m:=by
    rw[hx,hm,show 2 ^ k*(2*m)+2 ^ k-1=(2 ^ k-1)+2 ^ k*(2*m) by omega,Nat.add_mul_div_left _ _ hp,Nat.div_eq_of_lt (by omega)];omega
   have tb:∀(y:Nat) j,y.testBit (k+j)=(y / 2 ^ k).testBit j:=fun y j=>by rw[Nat.testBit_div_two_pow,Nat.add_comm]
   unfold off1
   rw[Nat.testBit_and]
   rcases Nat.lt_trichotomy i k with hik|hik|hik
   ·have hb:x.testBit i=false:=by
     rw[hx,Nat.testBit_two_pow_mul,decide_eq_false (by omega),Bool.false_and]
    rw[hb]
    simp;omega
   ·subst hik
    have hb:x.testBit i=true:=by
     have:=tb x 0
     rw[Nat.add_zero,e1] at this
     rw[this,Nat.testBit_zero]
     simp
    simp[hb]
   ·obtain⟨j,rfl⟩:∃ j,i=k+(j+1):=⟨i-k-1,by omega⟩
    rw[tb,tb,e1,e2,Nat.testBit_succ,Nat.testBit_succ]
    have q1:(2*m+1) / 2=m:=by omega
    have q2:2*m / 2=m:=by omega
    rw[q1,q2,Bool.and_self]
    constructor
    ·rintro(e|e)
     ·omega
     ·exact e
    ·exact .inr
def mem (s:W4) (i:Nat):Prop:=s.x0.testBit i=true
theorem mem_none (i:Nat):¬ mem W4.none i:=by simp[mem,W4.none]
theorem mem_or {s t:W4}{i:Nat}:mem (s.or t) i↔mem s i∨mem t i:=by simp[mem,W4.or,Nat.testBit_or]
theorem mem_and {s t:W4}{i:Nat}:mem (s.and t) i↔mem s i∧mem t i:=by simp[mem,W4.and,Nat.testBit_and]
theorem mem_bit {n i:Nat} (hn:n<64):mem (bit1 n) i↔i=n:=by
 unfold mem bit1
 rw[if_pos hn]
 simp only[Nat.testBit_two_pow,decide_eq_true_eq]
 exact⟨fun h=>h.symm,fun h=>h.symm⟩
theorem Sp.mem_lt {n:Nat}{s:W4} (h:Sp n s) {i:Nat} (hi:mem s i):i<n:=by
 rcases Nat.lt_or_ge i n with q|q
 ·exact q
 ·have:=Nat.testBit_lt_two_pow (Nat.lt_of_lt_of_le h.b (Nat.pow_le_pow_right (by omega) q))
  unfold mem at hi
  rw[this] at hi
  cases hi
theorem Sp.all_mem {n:Nat}{s:W4} (h:Sp n s) (hn:n≤64) {i:Nat}:i∈s.all↔mem s i:=by
 have ho:=(h.ok hn).l0
 simp only[W4.all,h.z1,h.z2,h.z3,onB_zero,List.map_nil,List.append_nil]
 exact onB_mem _ ho i
theorem Sp.isE {n:Nat}{s:W4} (h:Sp n s):s.isE=true↔∀ i,¬ mem s i:=by
 unfold W4.isE
 simp only[decide_eq_true_eq]
 constructor
 ·rintro rfl i
  simp[mem]
 ·intro q
  have h0:s.x0=0:=Nat.eq_of_testBit_eq (fun i=>by
   have:=q i
   unfold mem at this
   simpa using this)
  obtain⟨x0,x1,x2,x3⟩:=s
  have:=h.z1
  have:=h.z2
  have:=h.z3
  simp only at *
  subst_vars
  rfl
def fol (e:Ex) (i j:Nat):Prop:=mem (e.fs.getD i W4.none) j
def byt (e:Ex) (i b:Nat):Bool:=e.bs.getD i (fun _=>false) b
theorem modify_getD {l:List W4}{i k:Nat}{f:W4}{j:Nat}:mem ((l.modify k (·.or f)).getD i W4.none) j↔mem (l.getD i W4.none) j∨(i=k∧i<l.length∧mem f j):=by
 simp only[List.getD_eq_getElem?_getD,List.getElem?_modify]
 by_cases h:k=i
 ·subst h
  rcases Nat.lt_or_ge k l.length with hk|hk
  ·simp[List.getElem?_eq_getElem hk,mem_or,hk]
  ·simp[List.getElem?_eq_none hk,mem_none,Nat.not_lt.2 hk]
 ·have:¬ i=k:=fun e=>h e.symm
  simp[h,this]
theorem foM_mem {f:W4}:∀(l:List Nat) (fs:List W4) {i j:Nat},mem ((l.foldl (fun fs i=>fs.modify i (·.or f)) fs).getD i W4.none) j↔mem (fs.getD i W4.none) j∨(i∈l∧i<fs.length∧mem f j)
 |[],fs,i,j=>by simp
 |k::l,fs,i,j=>by
  rw[List.foldl_cons,foM_mem l,modify_getD,List.length_modify]
  constructor
  ·rintro((h|⟨rfl,h⟩)|⟨h1,h⟩)
   ·exact .inl h
   ·exact .inr ⟨by simp,h⟩
   ·exact .inr ⟨by simp[h1],h⟩
  ·rintro(h|⟨h1,h⟩)
   ·exact .inl (.inl h)
   ·rcases List.mem_cons.1 h1 with rfl|h1
    ·exact .inl (.inr ⟨rfl,h⟩)
    ·exact .inr ⟨h1,h⟩
theorem fol_join {n:Nat}{e:Ex}{a b:Pc} (he:ExOk n e) (ha:Pcs n a) (hn:n≤64) {i j:Nat}:fol (e.join a b) i j↔fol e i j∨(mem a.last i∧mem b.first j):=by
 unfold fol Ex.join foM
 rw[foM_mem,he.f,ha.l.all_mem hn]
 constructor
 ·rintro(h|⟨h1,_,h2⟩)
  ·exact .inl h
  ·exact .inr ⟨h1,h2⟩
 ·rintro(h|⟨h1,h2⟩)
  ·exact .inl h
  ·exact .inr ⟨h1,ha.l.mem_lt h1,h2⟩
abbrev Lng:=List Nat→Prop
inductive Pth (e:Ex):Nat→List Nat→Nat→Prop
 |one {s b:Nat} (h:byt e s b=true):Pth e s [b] s
 |step {s b s' t:Nat}{w:List Nat} (h:byt e s b=true) (f:fol e s s') (r:Pth e s' w t):Pth e s (b::w) t
theorem Pth.ne {e:Ex}{s t:Nat}{w:List Nat} (h:Pth e s w t):w≠[]:=by cases h<;>simp
theorem Pth.append {e:Ex}{s t s' t':Nat}{u v:List Nat} (h:Pth e s u t) (f:fol e t s') (g:Pth e s' v t'):Pth e s (u++v) t':=by
 induction h with
 |one h=>exact .step h f g
 |step h f' r ih=>exact .step h f' (ih f)
theorem Pth.mono {e e':Ex} (hb:∀ i b,byt e' i b=byt e i b) (hf:∀ i j,fol e i j→fol e' i j) {s t:Nat}{w:List Nat} (h:Pth e s w t):Pth e' s w t:=by
 induction h with
 |one h=>exact .one (by rw[hb];exact h)
 |step h f r ih=>exact .step (by rw[hb];exact h) (hf _ _ f) ih
theorem Pth.within {e e':Ex}{S:Nat→Prop} (hb:∀ i b,S i→byt e' i b=byt e i b) (hf:∀ i j,S i→(fol e' i j↔fol e i j)) (hc:∀ i j,S i→fol e i j→S j) {s t:Nat}{w:List Nat} (hs:S s) (h:Pth e s w t):Pth e' s w t∧S t:=by
 induction h with
 |one h=>exact⟨.one (by rw[hb _ _ hs];exact h),hs⟩
 |step h f r ih=>
  have:=ih (hc _ _ hs f)
  exact⟨.step (by rw[hb _ _ hs];exact h) ((hf _ _ hs).2 f) this.1,this.2⟩
structure Rep (e:Ex) (S:Nat→Prop) (p:Pc) (L:Lng):Prop where
 f:∀ i,mem p.first i→S i
 l:∀ i,mem p.last i→S i
 c:∀ i j,S i→fol e i j→S j
 em:p.empty=true↔L []
 w:∀ w,w≠[]→(L w↔∃ s t,mem p.first s∧mem p.last t∧Pth e s w t)
theorem Rep.ends {e:Ex}{S:Nat→Prop}{p:Pc}{L:Lng} (h:Rep e S p L) {s t:Nat}{w:List Nat} (hs:S s) (r:Pth e s w t):S t:=(r.within (fun _ _ _=>rfl) (fun _ _ _=>Iff.rfl) h.c hs).2
theorem Rep.ext {e e':Ex}{S:Nat→Prop}{p:Pc}{L:Lng} (h:Rep e S p L) (hb:∀ i b,S i→byt e' i b=byt e i b) (hf:∀ i j,S i→(fol e' i j↔fol e i j)):Rep e' S p L:=by
 refine⟨h.f,h.l,fun i j hi q=>h.c i j hi ((hf i j hi).1 q),h.em,fun w hw=>(h.w w hw).trans ⟨?_,?_⟩⟩
 ·rintro⟨s,t,h1,h2,h3⟩
  exact⟨s,t,h1,h2,(h3.within hb hf h.c (h.f s h1)).1⟩
 ·rintro⟨s,t,h1,h2,h3⟩
  exact⟨s,t,h1,h2,(h3.within (fun i b q=>(hb i b q).symm) (fun i j q=>(hf i j q).symm) (fun i j hi q=>h.c i j hi ((hf i j hi).1 q)) (h.f s h1)).1⟩
theorem Rep.lang {e:Ex}{S:Nat→Prop}{p:Pc}{L M:Lng} (h:Rep e S p L) (q:∀ w,L w↔M w):Rep e S p M:=⟨h.f,h.l,h.c,h.em.trans (q []),fun w hw=>(q w).symm.trans (h.w w hw)⟩
theorem Rep.sup {e:Ex}{S T:Nat→Prop}{p:Pc}{L:Lng} (h:Rep e S p L) (q:∀ i,S i↔T i):Rep e T p L:=⟨fun i k=>(q i).1 (h.f i k),fun i k=>(q i).1 (h.l i k),fun i j hi k=>(q j).1 (h.c i j ((q i).2 hi) k),h.em,h.w⟩
def lN:Lng:=fun w=>w=[]
def l0:Lng:=fun _=>False
def lS (S:Nat→Bool):Lng:=fun w=>∃ b,S b=true∧w=[b]
def lAlt (L M:Lng):Lng:=fun w=>L w∨M w
def lCat (L M:Lng):Lng:=fun w=>∃ u v,w=u++v∧L u∧M v
def lOpt (L:Lng):Lng:=fun w=>w=[]∨L w
inductive lPlus (L:Lng):List Nat→Prop
 |one {w:List Nat} (h:L w):lPlus L w
 |more {u v:List Nat} (h:L u) (g:lPlus L v):lPlus L (u++v)
theorem rep_n (e:Ex):Rep e (fun _=>False) pcN lN:=by
 refine⟨fun i h=>(mem_none i h).elim,fun i h=>(mem_none i h).elim,fun _ _ h=>h.elim,by simp[pcN,lN],fun w hw=>⟨fun h=>(hw h).elim,?_⟩⟩
 rintro⟨s,t,h,-⟩
 exact(mem_none s h).elim
theorem rep_0 (e:Ex):Rep e (fun _=>False) pc0 l0:=by
 refine⟨fun i h=>(mem_none i h).elim,fun i h=>(mem_none i h).elim,fun _ _ h=>h.elim,by simp[pc0,l0],fun w hw=>⟨fun h=>h.elim,?_⟩⟩
 rintro⟨s,t,h,-⟩
 exact(mem_none s h).elim
theorem Rep.may {e:Ex}{S:Nat→Prop}{p:Pc}{L:Lng} (h:Rep e S p L):Rep e S p.may (lOpt L):=
 ⟨h.f,h.l,h.c,by simp[Pc.may,lOpt],fun w hw=>⟨fun q=>(h.w w hw).1 (q.resolve_left hw),fun q=>.inr ((h.w w hw).2 q)⟩⟩
theorem Rep.alt {e:Ex}{S T:Nat→Prop}{a b:Pc}{L M:Lng} (h:Rep e S a L) (g:Rep e T b M) (dj:∀ i,S i→¬ T i):Rep e (fun i=>S i∨T i) (a.alt b) (lAlt L M):=by
 refine⟨fun i q=>?_,fun i q=>?_,fun i j q r=>?_,?_,fun w hw=>⟨?_,?_⟩⟩
 ·exact(mem_or.1 q).imp (h.f i) (g.f i)
 ·exact(mem_or.1 q).imp (h.l i) (g.l i)
 ·exact q.imp (fun q=>h.c i j q r) (fun q=>g.c i j q r)
 ·simp only[Pc.alt,Bool.or_eq_true,lAlt]
  rw[h.em,g.em]
 ·rintro(q|q)
  ·obtain⟨s,t,h1,h2,h3⟩:=(h.w w hw).1 q
   exact⟨s,t,mem_or.2 (.inl h1),mem_or.2 (.inl h2),h3⟩
  ·obtain⟨s,t,h1,h2,h3⟩:=(g.w w hw).1 q
   exact⟨s,t,mem_or.2 (.inr h1),mem_or.2 (.inr h2),h3⟩
 ·rintro⟨s,t,h1,h2,h3⟩
  rcases mem_or.1 h1 with h1|h1
  ·have ht:=h.ends (h.f s h1) h3
   rcases mem_or.1 h2 with h2|h2
   ·exact .inl ((h.w w hw).2 ⟨s,t,h1,h2,h3⟩)
   ·exact(dj t ht (g.l t h2)).elim
  ·have ht:=g.ends (g.f s h1) h3
   rcases mem_or.1 h2 with h2|h2
   ·exact(dj t (h.l t h2) ht).elim
   ·exact .inr ((g.w w hw).2 ⟨s,t,h1,h2,h3⟩)
theorem Pth.over {e e':Ex}{S T:Nat→Prop}{a b:Pc}{L M:Lng} (h:Rep e S a L) (g:Rep e T b M) (dj:∀ i,S i→¬ T i) (hb:∀ i c,byt e' i c=byt e i c) (hf:∀ i j,fol e' i j↔fol e i j∨(mem a.last i∧mem b.first j)) {s t:Nat}{w:List Nat} (r:Pth e' s w t) :
  (T s→Pth e s w t)∧(S s→Pth e s w t∨∃ u v t1 s1,w=u++v∧Pth e s u t1∧mem a.last t1∧mem b.first s1∧Pth e s1 v t):=by
 induction r with
 |one h1=>exact⟨fun _=>.one (by rw[←hb];exact h1),fun _=>.inl (.one (by rw[←hb];exact h1))⟩
 | @step s c s' t w h1 f r ih=>
  have h1':byt e s c=true:=by rw[←hb];exact h1
  rcases(hf _ _).1 f with f|⟨f1,f2⟩
  ·refine⟨fun ht=>.step h1' f (ih.1 (g.c _ _ ht f)),fun hs=>?_⟩
   rcases ih.2 (h.c _ _ hs f) with q|⟨u,v,t1,s1,rfl,q1,q2,q3,q4⟩
   ·exact .inl (.step h1' f q)
   ·exact .inr ⟨c::u,v,t1,s1,rfl,.step h1' f q1,q2,q3,q4⟩
  ·have hs:=h.l _ f1
   refine⟨fun ht=>(dj _ hs ht).elim,fun _=>.inr ⟨[c],w,s,s',rfl,.one h1',f1,f2,ih.1 (g.f _ f2)⟩⟩
theorem Rep.join {e e':Ex}{S T:Nat→Prop}{a b:Pc}{L M:Lng} (h:Rep e S a L) (g:Rep e T b M) (dj:∀ i,S i→¬ T i) (hb:∀ i c,byt e' i c=byt e i c) (hf:∀ i j,fol e' i j↔fol e i j∨(mem a.last i∧mem b.first j)):Rep e' (fun i=>S i∨T i) (a.join b) (lCat L M):=by
 have mf:∀ i,mem (a.join b).first i↔mem a.first i∨(a.empty=true∧mem b.first i):=fun i=>by
  simp only[Pc.join]
  cases a.empty<;>simp[mem_or]
 have ml:∀ i,mem (a.join b).last i↔mem b.last i∨(b.empty=true∧mem a.last i):=fun i=>by
  simp only[Pc.join]
  cases b.empty<;>simp[mem_or]
 have up:∀ {s t:Nat}{w:List Nat},Pth e s w t→Pth e' s w t:=fun r=>r.mono hb (fun i j q=>(hf i j).2 (.inl q))
 refine⟨fun i q=>?_,fun i q=>?_,fun i j q r=>?_,?_,fun w hw=>⟨?_,?_⟩⟩
 ·exact((mf i).1 q).imp (h.f i) (fun q=>g.f i q.2)
 ·exact((ml i).1 q).symm.imp (fun q=>h.l i q.2) (g.l i)
 ·rcases(hf i j).1 r with r|⟨r1,r2⟩
  ·exact q.imp (fun q=>h.c i j q r) (fun q=>g.c i j q r)
  ·exact .inr (g.f j r2)
 ·simp only[Pc.join,Bool.and_eq_true,lCat]
  rw[h.em,g.em]
  constructor
  ·rintro⟨q1,q2⟩;exact⟨[],[],rfl,q1,q2⟩
  ·rintro⟨u,v,q,q1,q2⟩
   have:=List.append_eq_nil_iff.1 q.symm
   rw[this.1] at q1
   rw[this.2] at q2
   exact⟨q1,q2⟩
 ·rintro⟨u,v,rfl,q1,q2⟩
  by_cases hu:u=[]
  ·subst hu
   obtain⟨s,t,r1,r2,r3⟩:=(g.w v hw).1 q2
   exact⟨s,t,(mf s).2 (.inr ⟨h.em.2 q1,r1⟩),(ml t).2 (.inl r2),up r3⟩
  ·obtain⟨s,t,r1,r2,r3⟩:=(h.w u hu).1 q1
   by_cases hv:v=[]
   ·subst hv
    rw[List.append_nil]
    exact⟨s,t,(mf s).2 (.inl r1),(ml t).2 (.inr ⟨g.em.2 q2,r2⟩),up r3⟩
   ·obtain⟨s',t',k1,k2,k3⟩:=(g.w v hv).1 q2
    exact⟨s,t',(mf s).2 (.inl r1),(ml t').2 (.inl k2),(up r3).append ((hf _ _).2 (.inr ⟨r2,k1⟩)) (up k3)⟩
 ·rintro⟨s,t,q1,q2,q3⟩
  have ov:=q3.over h g dj hb hf
  rcases(mf s).1 q1 with q1|⟨q0,q1⟩
  ·rcases ov.2 (h.f s q1) with r|⟨u,v,t1,s1,rfl,r1,r2,r3,r4⟩
   ·have ht:=h.ends (h.f s q1) r
    rcases(ml t).1 q2 with q2|⟨q4,q2⟩
    ·exact(dj t ht (g.l t q2)).elim
    ·exact⟨w,[],by simp,(h.w w hw).2 ⟨s,t,q1,q2,r⟩,g.em.1 q4⟩
   ·have ht:=g.ends (g.f s1 r3) r4
    rcases(ml t).1 q2 with q2|⟨q4,q2⟩
    ·exact⟨u,v,rfl,(h.w u r1.ne).2 ⟨s,t1,q1,r2,r1⟩,(g.w v r4.ne).2 ⟨s1,t,r3,q2,r4⟩⟩
    ·exact(dj t (h.l t q2) ht).elim
  ·have r:=ov.1 (g.f s q1)
   have ht:=g.ends (g.f s q1) r
   rcases(ml t).1 q2 with q2|⟨q4,q2⟩
   ·exact⟨[],w,rfl,h.em.1 q0,(g.w w hw).2 ⟨s,t,q1,q2,r⟩⟩
   ·exact(dj t (h.l t q2) ht).elim
theorem Pth.anew {e e':Ex}{a:Pc} (hb:∀ i c,byt e' i c=byt e i c) (hf:∀ i j,fol e' i j↔fol e i j∨(mem a.last i∧mem a.first j)) {s t:Nat}{w:List Nat} (r:Pth e' s w t) :
  Pth e s w t∨∃ u v t1 s1,w=u++v∧Pth e s u t1∧mem a.last t1∧mem a.first s1∧Pth e' s1 v t:=by
 induction r with
 |one h1=>exact .inl (.one (by rw[←hb];exact h1))
 | @step s c s' t w h1 f r ih=>
  have h1':byt e s c=true:=by rw[←hb];exact h1
  rcases(hf _ _).1 f with f|⟨f1,f2⟩
  ·rcases ih with q|⟨u,v,t1,s1,rfl,q1,q2,q3,q4⟩
   ·exact .inl (.step h1' f q)
   ·exact .inr ⟨c::u,v,t1,s1,rfl,.step h1' f q1,q2,q3,q4⟩
  ·exact .inr ⟨[c],w,s,s',rfl,.one h1',f1,f2,r⟩
theorem lPlus_nil {L:Lng}:lPlus L []↔L []:=by
 constructor
 ·intro h
  generalize hw:([]:List Nat)=w at h
  induction h with
  |one h=>exact h
  |more h g ih=>
   have:=List.append_eq_nil_iff.1 hw.symm
   rw[this.1] at h ⊢
   rw[this.2]
   exact h
 ·exact .one
theorem Rep.again {e e':Ex}{S:Nat→Prop}{a:Pc}{L:Lng} (h:Rep e S a L) (hb:∀ i c,byt e' i c=byt e i c) (hf:∀ i j,fol e' i j↔fol e i j∨(mem a.last i∧mem a.first j)):Rep e' S a (lPlus L):=by
 have up:∀ {s t:Nat}{w:List Nat},Pth e s w t→Pth e' s w t:=fun r=>r.mono hb (fun i j q=>(hf i j).2 (.inl q))
 refine⟨h.f,h.l,fun i j q r=>?_,h.em.trans lPlus_nil.symm,fun w hw=>⟨fun q=>?_,?_⟩⟩
 ·rcases(hf i j).1 r with r|⟨r1,r2⟩
  ·exact h.c i j q r
  ·exact h.f j r2
 ·induction q with
  |one q=>
   obtain⟨s,t,r1,r2,r3⟩:=(h.w _ hw).1 q
   exact⟨s,t,r1,r2,up r3⟩
  | @more u v q _ ih=>
   by_cases hu:u=[]
   ·subst hu;exact ih hw
   ·obtain⟨s,t,r1,r2,r3⟩:=(h.w _ hu).1 q
    by_cases hv:v=[]
    ·subst hv
     rw[List.append_nil]
     exact⟨s,t,r1,r2,up r3⟩
    ·obtain⟨s',t',k1,k2,k3⟩:=ih hv
     exact⟨s,t',r1,k2,(up r3).append ((hf _ _).2 (.inr ⟨r2,k1⟩)) k3⟩
 ·rintro⟨s,t,q1,q2,q3⟩
  obtain⟨n,hn⟩:∃ n,n=w.length:=⟨_,rfl⟩
  induction n using Nat.strongRecOn generalizing w s with
  |_ n ih=>
   rcases q3.anew hb hf with r|⟨u,v,t1,s1,rfl,r1,r2,r3,r4⟩
   ·exact .one ((h.w w hw).2 ⟨s,t,q1,q2,r⟩)
   ·have hu:=List.length_pos_iff.2 r1.ne
    refine .more ((h.w u r1.ne).2 ⟨s,t1,q1,r2,r1⟩) (ih v.length (by rw[hn];simp;omega) v r4.ne s1 r3 r4 rfl)
def Rg (a b i:Nat):Prop:=a≤i∧i<b
structure Fr (n:Nat) (e e':Ex):Prop where
 b:∀ i c,i<n→byt e' i c=byt e i c
 f:∀ i j,i<n→(fol e' i j↔fol e i j)
theorem Fr.refl (n:Nat) (e:Ex):Fr n e e:=⟨fun _ _ _=>rfl,fun _ _ _=>Iff.rfl⟩
theorem Fr.trans {n:Nat}{a b c:Ex} (h:Fr n a b) (g:Fr n b c):Fr n a c:=⟨fun i x q=>(g.b i x q).trans (h.b i x q),fun i j q=>(g.f i j q).trans (h.f i j q)⟩
theorem Fr.mono {m n:Nat}{a b:Ex} (h:Fr n a b) (q:m≤n):Fr m a b:=⟨fun i x k=>h.b i x (by omega),fun i j k=>h.f i j (by omega)⟩
theorem Fr.join {m n:Nat}{e:Ex}{a b:Pc} (he:ExOk n e) (ha:Pcs n a) (hn:n≤64) (hm:∀ i,mem a.last i→m≤i):Fr m e (e.join a b):=by
 refine⟨fun i c _=>rfl,fun i j hi=>?_⟩
 rw[fol_join he ha hn]
 constructor
 ·rintro(h|⟨h,_⟩)
  ·exact h
  ·have:=hm i h;omega
 ·exact .inl
theorem Rep.frame {m n:Nat}{e e':Ex}{p:Pc}{L:Lng} (h:Rep e (Rg m n) p L) (f:Fr n e e'):Rep e' (Rg m n) p L:=h.ext (fun i b q=>f.b i b q.2) (fun i j q=>f.f i j q.2)
theorem Rep.rg0 {e:Ex}{p:Pc}{L:Lng} (h:Rep e (fun _=>False) p L) (n:Nat):Rep e (Rg n n) p L:=h.sup (fun i=>⟨fun q=>q.elim,fun q=>by unfold Rg at q;omega⟩)
structure MkR (f:Mk) (k:Nat) (L:Lng):Prop where
 ok:MkOk f k
 r:∀ n e,n+k≤64→ExOk n e→Fr n e (f e).2∧Rep (f e).2 (Rg n (n+k)) (f e).1 L
theorem newM_r (S:Nat→Bool):MkR (newM S) 1 (lS S):=by
 refine⟨newM_ok S,fun n e hn he=>?_⟩
 have hb:=he.b
 have hf:=he.f
 have h1:∀ i c,byt (newM S e).2 i c=if i=n then S c else byt e i c:=fun i c=>by
  unfold newM byt
  simp only[List.getD_eq_getElem?_getD,List.getElem?_append]
  split
  ·rw[if_neg (by omega)]
  ·by_cases hi:i=n
   ·subst hi;simp[hb]
   ·rw[if_neg hi,List.getElem?_eq_none (l:=[S]) (by simp;omega),List.getElem?_eq_none (l:=e.bs) (by omega)]
 have h2:∀ i j,fol (newM S e).2 i j↔fol e i j:=fun i j=>by
  unfold newM fol
  simp only[List.getD_eq_getElem?_getD,List.getElem?_append]
  split
  ·exact Iff.rfl
  ·rw[List.getElem?_eq_none (l:=e.fs) (by omega)]
   by_cases hi:i-e.fs.length=0
   ·simp[hi]
   ·rw[List.getElem?_eq_none (l:=[W4.none]) (by simp;omega)]
 have h3:∀ j,¬ fol e n j:=fun j q=>by
  unfold fol at q
  rw[List.getD_eq_getElem?_getD,List.getElem?_eq_none (by omega)] at q
  exact mem_none j q
 have hp:(newM S e).1=⟨bit1 n,bit1 n,false⟩:=by unfold newM;rw[hb]
 refine⟨⟨fun i c hi=>by rw[h1,if_neg (by omega)],fun i j _=>h2 i j⟩,?_⟩
 rw[hp]
 have hm:∀ i,mem (bit1 n) i↔i=n:=fun i=>mem_bit (by omega)
 refine⟨fun i q=>?_,fun i q=>?_,fun i j q r=>?_,?_,fun w hw=>⟨?_,?_⟩⟩
 ·have:=(hm i).1 q;unfold Rg;omega
 ·have:=(hm i).1 q;unfold Rg;omega
 ·have:i=n:=by unfold Rg at q;omega
  rw[h2,this] at r
  exact(h3 j r).elim
 ·constructor
  ·intro q;cases q
  ·rintro⟨b,-,q⟩;cases q
 ·rintro⟨b,q,rfl⟩
  exact⟨n,n,(hm n).2 rfl,(hm n).2 rfl,.one (by rw[h1,if_pos rfl];exact q)⟩
 ·rintro⟨s,t,q1,q2,q3⟩
  have hs:=(hm s).1 q1
  subst hs
  cases q3 with
  |one h=>exact⟨_,by rw[h1,if_pos rfl] at h;exact h,rfl⟩
  |step h f r=>rw[h2] at f;exact(h3 _ f).elim
theorem agM_r {f:Mk}{k:Nat}{L:Lng} (h:MkR f k L):MkR (agM f) k (lPlus L):=by
 refine⟨agM_ok h.ok,fun n e hn he=>?_⟩
 obtain⟨h1,h2⟩:=h.ok n e hn he
 obtain⟨h3,h4⟩:=h.r n e hn he
 exact⟨h3.trans (Fr.join h1 h2 hn (fun i q=>(h4.l i q).1)),h4.again (fun _ _=>rfl) (fun i j=>fol_join h1 h2 hn)⟩
theorem mayM_r {f:Mk}{k:Nat}{L:Lng} (h:MkR f k L):MkR (mayM f) k (lOpt L):=
 ⟨mayM_ok h.ok,fun n e hn he=>⟨(h.r n e hn he).1,(h.r n e hn he).2.may⟩⟩
def StR (g:Pc→Mk) (k:Nat) (T:Lng→Lng):Prop:=∀ m n e r R,m≤n→n+k≤64→ExOk n e→Pcs n r→Rep e (Rg m n) r R→ExOk (n+k) (g r e).2∧Pcs (n+k) (g r e).1∧Fr m e (g r e).2∧Rep (g r e).2 (Rg m (n+k)) (g r e).1 (T R)
theorem ontoM_r {f:Mk}{k:Nat}{L:Lng} (h:MkR f k L):StR (ontoM f) k (lCat L):=by
 intro m n e r R hm hn he hr hR
 obtain⟨h1,h2⟩:=h.ok n e hn he
 obtain⟨h3,h4⟩:=h.r n e hn he
 obtain⟨h5,h6⟩:=ontoM_ok h.ok hn he hr
 refine⟨h5,h6,(h3.mono hm).trans (Fr.join h1 h2 hn (fun i q=>by have:=(h4.l i q).1;omega)),?_⟩
 have:=h4.join (e':=(f e).2.join (f e).1 r) (hR.frame h3) (fun i q1 q2=>by unfold Rg at q1 q2;omega) (fun _ _=>rfl) (fun i j=>fol_join h1 h2 hn)
 exact this.sup (fun i=>by unfold Rg;omega)
theorem mayO_r {g:Pc→Mk}{k:Nat}{T:Lng→Lng} (h:StR g k T):StR (fun r=>mayM (g r)) k (fun R=>lOpt (T R)):=by
 intro m n e r R hm hn he hr hR
 obtain⟨h1,h2,h3,h4⟩:=h m n e r R hm hn he hr hR
 exact⟨h1,h2.may,h3,h4.may⟩
def itL (T:Lng→Lng):Nat→Lng→Lng
 |0,R=>R
 |n+1,R=>itL T n (T R)
theorem iterM_r {g:Pc→Mk}{k:Nat}{T:Lng→Lng} (h:StR g k T):∀ c,StR (iterM g c) (k*c) (itL T c)
 |0=>fun m n e r R hm hn he hr hR=>by
  rw[Nat.mul_zero,Nat.add_zero]
  exact⟨he,hr,Fr.refl _ _,hR⟩
 |c+1=>fun m n e r R hm hn he hr hR=>by
  rw[Nat.mul_succ] at hn ⊢
  obtain⟨h1,h2,h3,h4⟩:=h m n e r R hm (by omega) he hr hR
  obtain⟨k1,k2,k3,k4⟩:=iterM_r h c m (n+k) (g r e).2 (g r e).1 (T R) (by omega) (by omega) h1 h2 h4
  rw[show n+(k*c+k)=n+k+k*c by omega]
  exact⟨k1,k2,h3.trans k3,k4⟩
theorem braceM_r {f:Mk}{k:Nat}{L:Lng} (h:MkR f k L) {a b:Nat} (hab:a≤b):StR (fun r=>braceM f a b r) (k*b) (fun R=>itL (lCat L) a (itL (fun R=>lOpt (lCat L R)) (b-a) R)):=by
 intro m n e r R hm hn he hr hR
 have hkb:k*b=k*(b-a)+k*a:=by rw[←Nat.mul_add];congr 1;omega
 rw[hkb] at hn ⊢
 obtain⟨h1,h2,h3,h4⟩:=iterM_r (mayO_r (ontoM_r h)) (b-a) m n e r R hm (by omega) he hr hR
 obtain⟨k1,k2,k3,k4⟩:=iterM_r (ontoM_r h) a m (n+k*(b-a)) _ _ _ (by omega) (by omega) h1 h2 h4
 rw[←Nat.add_assoc]
 exact⟨k1,k2,h3.trans k3,k4⟩
def cntL (c:Cnt) (L:Lng):Lng:=
 if c.sign=42 then lOpt (lPlus L) else if c.sign=43 then lPlus L else if c.sign=63 then lOpt L else
 if c.most=-1 then itL (lCat L) c.least.toNat (lOpt (lPlus L))
 else itL (lCat L) c.least.toNat (itL (fun R=>lOpt (lCat L R)) (c.most.toNat-c.least.toNat) lN)
theorem timesM_r {f:Mk}{k:Nat}{c:Cnt}{L:Lng} (h:MkR f k L) (hc:CntOk c):MkR (timesM f c) (k*cop c) (cntL c L):=by
 refine⟨timesM_ok h.ok hc,fun n e hn he=>?_⟩
 rcases hc with hs|hs|hs|⟨hs,h0,h3,h1⟩
 ·have:cop c=1:=by simp[cop,hs]
  rw[this,Nat.mul_one] at hn ⊢
  have e1:timesM f c=mayM (agM f):=by unfold timesM;rw[if_pos hs]
  have e2:cntL c L=lOpt (lPlus L):=by unfold cntL;rw[if_pos hs]
  rw[e1,e2];exact(mayM_r (agM_r h)).r n e hn he
 ·have:cop c=1:=by simp[cop,hs]
  rw[this,Nat.mul_one] at hn ⊢
  have n42:¬ c.sign=42:=by rw[hs];decide
  have e1:timesM f c=agM f:=by unfold timesM;rw[if_neg n42,if_pos hs]
  have e2:cntL c L=lPlus L:=by unfold cntL;rw[if_neg n42,if_pos hs]
  rw[e1,e2];exact(agM_r h).r n e hn he
 ·have:cop c=1:=by simp[cop,hs]
  rw[this,Nat.mul_one] at hn ⊢
  have n42:¬ c.sign=42:=by rw[hs];decide
  have n43:¬ c.sign=43:=by rw[hs];decide
  have e1:timesM f c=mayM f:=by unfold timesM;rw[if_neg n42,if_neg n43,if_pos hs]
  have e2:cntL c L=lOpt L:=by unfold cntL;rw[if_neg n42,if_neg n43,if_pos hs]
  rw[e1,e2];exact(mayM_r h).r n e hn he
 ·have n42:¬ c.sign=42:=by rw[hs];decide
  have n43:¬ c.sign=43:=by rw[hs];decide
  have n63:¬ c.sign=63:=by rw[hs];decide
  rcases h1 with h1|h1
  ·have:cop c=c.least.toNat+1:=by simp[cop,hs,h1]
   rw[this,Nat.mul_succ] at hn ⊢
   have e1:timesM f c=fun e=>braceM f c.least.toNat c.least.toNat (mayM (agM f) e).1 (mayM (agM f) e).2:=by unfold timesM;rw[if_neg n42,if_neg n43,if_neg n63,if_pos h1]
   have e2:cntL c L=itL (lCat L) c.least.toNat (lOpt (lPlus L)):=by unfold cntL;rw[if_neg n42,if_neg n43,if_neg n63,if_pos h1]
   rw[e1,e2]
   obtain⟨g1,g2⟩:=mayM_ok (agM_ok h.ok) n e (by omega) he
   obtain⟨g3,g4⟩:=(mayM_r (agM_r h)).r n e (by omega) he
   have:=braceM_r h (Nat.le_refl c.least.toNat) n (n+k) _ _ _ (by omega) (by omega) g1 g2 g4
   rw[Nat.sub_self] at this
   rw[show n+(k*c.least.toNat+k)=n+k+k*c.least.toNat by omega]
   exact⟨g3.trans this.2.2.1,this.2.2.2⟩
  ·have hm:¬ c.most=-1:=by omega
   have:cop c=c.most.toNat:=by simp[cop,hs,hm]
   rw[this] at hn ⊢
   have e1:timesM f c=braceM f c.least.toNat c.most.toNat pcN:=by unfold timesM;rw[if_neg n42,if_neg n43,if_neg n63,if_neg hm]
   have e2:cntL c L=itL (lCat L) c.least.toNat (itL (fun R=>lOpt (lCat L R)) (c.most.toNat-c.least.toNat) lN):=by unfold cntL;rw[if_neg n42,if_neg n43,if_neg n63,if_neg hm]
   rw[e1,e2]
   have:=braceM_r h (show c.least.toNat≤c.most.toNat by omega) n n e pcN lN (Nat.le_refl _) hn he (Pcs.n _) ((rep_n e).rg0 n)
   exact⟨this.2.2.1,this.2.2.2⟩
def cntsL (L:Lng):List Cnt→Lng
 |[]=>L
 |c::cs=>cntL c (cntsL L cs)
theorem lCat_n {L:Lng} (h:∀ w,L w↔w=[]) {R:Lng} (w:List Nat):lCat L R w↔R w:=by
 constructor
 ·rintro⟨u,v,rfl,h1,h2⟩
  rw[(h u).1 h1];exact h2
 ·exact fun q=>⟨[],w,rfl,(h _).2 rfl,q⟩
theorem itL_same {T:Lng→Lng}{R:Lng} (h:∀ R,(∀ w,R w↔w=[])→∀ w,T R w↔w=[]):∀ c R,(∀ w,R w↔w=[])→∀ w,itL T c R w↔w=[]
 |0,R,hR=>hR
 |c+1,R,hR=>itL_same (R:=R) h c (T R) (h R hR)
theorem plus_n {L:Lng} (h:∀ w,L w↔w=[]) (w:List Nat):lPlus L w↔w=[]:=by
 constructor
 ·intro q
  induction q with
  |one q=>exact(h _).1 q
  |more q _ ih=>rw[(h _).1 q,ih];rfl
 ·rintro rfl;exact .one ((h _).2 rfl)
theorem cntL_n {c:Cnt}{L:Lng} (h:∀ w,L w↔w=[]) (w:List Nat):cntL c L w↔w=[]:=by
 have hp:∀ w,lOpt (lPlus L) w↔w=[]:=fun w=>by unfold lOpt;rw[plus_n h];simp
 have hc:∀ R:Lng,(∀ w,R w↔w=[])→∀ w,lCat L R w↔w=[]:=fun R hR w=>(lCat_n h w).trans (hR w)
 unfold cntL
 split
 ·exact hp w
 ·split
  ·exact plus_n h w
  ·split
   ·unfold lOpt;rw[h];simp
   ·split
    ·exact itL_same (R:=L) hc _ _ hp w
    ·exact itL_same (R:=L) hc _ _ (itL_same (R:=L) (fun R hR w=>by unfold lOpt;rw[hc R hR];simp) _ _ (fun w=>Iff.rfl)) w
theorem cntL_0 {c:Cnt}{L:Lng} (hc:CntOk c) (h:cop c=0) (w:List Nat):cntL c L w↔w=[]:=by
 unfold cop at h
 rcases hc with hs|hs|hs|⟨hs,h0,h3,h1⟩
 ·simp[hs] at h
 ·simp[hs] at h
 ·simp[hs] at h
 ·have hm:¬ c.most=-1:=fun q=>by simp[hs,q] at h
  have e1:c.most.toNat=0:=by simpa [hs,hm] using h
  have e2:c.least.toNat=0:=by omega
  unfold cntL
  rw[if_neg (by rw[hs];decide),if_neg (by rw[hs];decide),if_neg (by rw[hs];decide),if_neg hm,e1,e2]
  exact Iff.rfl
theorem cntsL_0 {L:Lng}{k:Nat} (h:k=0→∀ w,L w↔w=[]):∀ {cs:List Cnt},(∀ c∈cs,CntOk c)→spN k cs=0→∀ w,cntsL L cs w↔w=[]
 |[],_,e=>h e
 |c::cs,hc,e=>by
  simp only[spN] at e
  rcases Nat.mul_eq_zero.1 e with e|e
  ·exact cntL_n (cntsL_0 h (fun c hc'=>hc c (by simp[hc'])) e)
  ·exact cntL_0 (hc c (by simp)) e
theorem partM_r {a:Mk}{k:Nat}{L:Lng} (h:MkR a k L) (h0:k=0→∀ w,L w↔w=[]):∀ {cs:List Cnt},(∀ c∈cs,CntOk c)→MkR (partM a k cs) (spN k cs) (cntsL L cs)
 |[],_=>⟨partM_ok h.ok (by simp),fun n e hn he=>by
  simp only[partM,spN,cntsL] at hn ⊢
  split
  ·rename_i e0;subst e0
   exact⟨Fr.refl _ _,((rep_n e).rg0 n).lang (fun w=>(h0 rfl w).symm)⟩
  ·exact h.r n e hn he⟩
 |c::cs,hc=>⟨partM_ok h.ok hc,fun n e hn he=>by
  simp only[partM]
  split
  ·rename_i e0;rw[e0]
   exact⟨Fr.refl _ _,((rep_n e).rg0 n).lang (fun w=>(cntsL_0 h0 hc e0 w).symm)⟩
  ·exact(timesM_r (partM_r h h0 (fun c hc'=>hc c (by simp[hc']))) (hc c (by simp))).r n e hn he⟩
mutual
def LP:Prt→Lng
 |.mk g S cs=>cntsL (match g with|[]=>lS S|c::gs=>lAlt (LC c) (LCs gs)) cs.reverse
def LC:List Prt→Lng
 |[]=>lN
 |p::ps=>lCat (LP p) (LC ps)
def LCs:List (List Prt)→Lng
 |[]=>l0
 |c::cs=>lAlt (LC c) (LCs cs)
end
theorem LP_eq (g:List (List Prt)) (S:Nat→Bool) (cs:List Cnt):LP (.mk g S cs)=cntsL (match g with|[]=>lS S|_::_=>LCs g) cs.reverse:=by
 cases g with
 |nil=>simp[LP]
 |cons c gs=>simp only[LP,LCs]
mutual
theorem LP_0:∀(p:Prt),TrOk p→spP p=0→∀ w,LP p w↔w=[]
 |.mk g S cs,h,e=>by
  simp only[TrOk] at h
  rw[spP_eq] at e
  rw[LP_eq]
  refine cntsL_0 (fun e0=>?_) (fun c hc=>h.1 c (by simpa using hc)) e
  match g,h with
  |[],h=>simp[spA] at e0
  |c::gs,h=>
   rw[spA_cons] at e0
   exact LCs_0 (c::gs) h.2 e0 (by simp)
theorem LC_0:∀(ps:List Prt),TrOkC ps→spC ps=0→∀ w,LC ps w↔w=[]
 |[],_,_=>fun w=>by simp[LC,lN]
 |p::ps,h,e=>fun w=>by
  simp only[TrOkC] at h
  simp only[spC] at e
  simp only[LC]
  rw[lCat_n (LP_0 p h.1 (by omega))]
  exact LC_0 ps h.2 (by omega) w
theorem LCs_0:∀(cs:List (List Prt)),TrOkVs cs→spCs cs=0→cs≠[]→∀ w,LCs cs w↔w=[]
 |[],_,_,hn=>(hn rfl).elim
 |c::cs,h,e,_=>fun w=>by
  simp only[TrOkVs] at h
  simp only[spCs] at e
  simp only[LCs,lAlt]
  rw[LC_0 c h.1 (by omega) w]
  cases cs with
  |nil=>simp[LCs,l0]
  |cons d cs=>rw[LCs_0 (d::cs) h.2 (by omega) (by simp) w];simp
end
theorem lCat_assoc {A B C:Lng} (w:List Nat):lCat (lCat A B) C w↔lCat A (lCat B C) w:=by
 constructor
 ·rintro⟨u,v,rfl,⟨x,y,rfl,h1,h2⟩,h3⟩
  exact⟨x,y++v,by simp,h1,y,v,rfl,h2,h3⟩
 ·rintro⟨u,v,rfl,h1,x,y,rfl,h2,h3⟩
  exact⟨u++x,y,by simp,⟨u,x,rfl,h1,h2⟩,h3⟩
theorem lCat_nil {A:Lng} (w:List Nat):lCat A lN w↔A w:=by
 constructor
 ·rintro⟨u,v,rfl,h1,h2⟩
  unfold lN at h2
  rw[h2,List.append_nil];exact h1
 ·exact fun h=>⟨w,[],by simp,h,rfl⟩
mutual
theorem exP_r:∀(p:Prt),TrOk p→MkR (exP p) (spP p) (LP p)
 |.mk g S cs,h=>by
  simp only[TrOk] at h
  rw[spP_eq,exP_eq,LP_eq]
  match g,h with
  |[],h=>exact partM_r (newM_r S) (fun e=>by simp[spA] at e) (fun c hc=>h.1 c (by simpa using hc))
  |c::gs,h=>
   rw[spA_cons]
   refine partM_r (L:=LCs (c::gs)) ⟨fun n e hn he=>exCs_ok (c::gs) h.2 n e pc0 hn he (Pcs.zero n),fun n e hn he=>?_⟩ (fun e=>LCs_0 (c::gs) h.2 e (by simp)) (fun c hc=>h.1 c (by simpa using hc))
   have:=exCs_r (c::gs) h.2 n n e pc0 l0 (Nat.le_refl _) hn he (Pcs.zero n) ((rep_0 e).rg0 n)
   exact⟨this.1,this.2.lang (fun w=>by simp[lAlt,l0])⟩
theorem exC_r:∀(ps:List Prt),TrOkC ps→∀ m n e a A,m≤n→n+spC ps≤64→ExOk n e→Pcs n a→Rep e (Rg m n) a A→Fr m e (exC ps a e).2∧Rep (exC ps a e).2 (Rg m (n+spC ps)) (exC ps a e).1 (lCat A (LC ps))
 |[],_,m,n,e,a,A,_,_,_,_,hA=>by
  simp only[exC,spC,LC,Nat.add_zero]
  exact⟨Fr.refl _ _,hA.lang (fun w=>(lCat_nil w).symm)⟩
 |p::ps,h,m,n,e,a,A,hm,hn,he,ha,hA=>by
  simp only[TrOkC] at h
  simp only[spC] at hn ⊢
  have hp:=exP_r p h.1
  obtain⟨h1,h2⟩:=hp.ok n e (by omega) he
  obtain⟨h3,h4⟩:=hp.r n e (by omega) he
  have ha':=ha.mono (show n≤n+spP p by omega)
  have hj:=(hA.frame h3).join (e':=(exP p e).2.join a (exP p e).1) h4 (fun i q1 q2=>by unfold Rg at q1 q2;omega) (fun _ _=>rfl) (fun i j=>fol_join h1 ha' (by omega))
  have:=exC_r ps h.2 m (n+spP p) ((exP p e).2.join a (exP p e).1) (a.join (exP p e).1) (lCat A (LP p)) (by omega) (by omega) (h1.join h2) (ha'.join h2) (hj.sup (fun i=>by unfold Rg;omega))
  simp only[exC,LC]
  rw[←Nat.add_assoc]
  exact⟨((h3.mono hm).trans (Fr.join h1 ha' (by omega) (fun i q=>(hA.l i q).1))).trans this.1,this.2.lang (fun w=>lCat_assoc w)⟩
theorem exCs_r:∀(cs:List (List Prt)),TrOkVs cs→∀ m n e a A,m≤n→n+spCs cs≤64→ExOk n e→Pcs n a→Rep e (Rg m n) a A→Fr m e (exCs cs a e).2∧Rep (exCs cs a e).2 (Rg m (n+spCs cs)) (exCs cs a e).1 (lAlt A (LCs cs))
 |[],_,m,n,e,a,A,_,_,_,_,hA=>by
  simp only[exCs,spCs,LCs,Nat.add_zero]
  exact⟨Fr.refl _ _,hA.lang (fun w=>by simp[lAlt,l0])⟩
 |c::cs,h,m,n,e,a,A,hm,hn,he,ha,hA=>by
  simp only[TrOkVs] at h
  simp only[spCs] at hn ⊢
  obtain⟨h1,h2⟩:=exC_ok c h.1 n e pcN (by omega) he (Pcs.n n)
  obtain⟨h3,h4⟩:=exC_r c h.1 n n e pcN lN (Nat.le_refl _) (by omega) he (Pcs.n n) ((rep_n e).rg0 n)
  have hal:=(hA.frame h3).alt (h4.lang (fun w=>lCat_n (fun w=>Iff.rfl) w)) (fun i q1 q2=>by unfold Rg at q1 q2;omega)
  have:=exCs_r cs h.2 m (n+spC c) (exC c pcN e).2 (a.alt (exC c pcN e).1) (lAlt A (LC c)) (by omega) (by omega) h1 ((ha.mono (by omega)).alt h2) (hal.sup (fun i=>by unfold Rg;omega))
  simp only[exCs,LCs]
  rw[←Nat.add_assoc]
  exact⟨(h3.mono hm).trans this.1,this.2.lang (fun w=>by simp only[lAlt];exact or_assoc)⟩
end
theorem whole_r {cs:List (List Prt)} (h:TrOkVs cs) (hn:spCs cs≤64):ExOk (spCs cs) (exCs cs pc0 ⟨[],[]⟩).2∧Pcs (spCs cs) (exCs cs pc0 ⟨[],[]⟩).1∧Rep (exCs cs pc0 ⟨[],[]⟩).2 (Rg 0 (spCs cs)) (exCs cs pc0 ⟨[],[]⟩).1 (LCs cs):=by
 have h0:ExOk 0 ⟨[],[]⟩:=⟨rfl,rfl,fun x hx=>by simp at hx⟩
 have h1:=exCs_ok cs h 0 ⟨[],[]⟩ pc0 (by omega) h0 (Pcs.zero 0)
 have h2:=exCs_r cs h 0 0 ⟨[],[]⟩ pc0 l0 (Nat.le_refl _) (by omega) h0 (Pcs.zero 0) ((rep_0 _).rg0 0)
 rw[Nat.zero_add] at h1 h2
 exact⟨h1.1,h1.2,h2.2.lang (fun w=>by simp[lAlt,l0])⟩
theorem Sp.orS {n:Nat}{fs:List W4} (h:∀ x∈fs,Sp n x):∀(is:List Nat) {a:W4},Sp n a→Sp n (orAll fs is a)
 |[],a,ha=>ha
 |i::is,a,ha=>by
  refine Sp.orS h is (ha.or ?_)
  rw[List.getD_eq_getElem?_getD]
  cases q:fs[i]? with
  |none=>exact Sp.none n
  |some x=>exact h x (List.mem_of_getElem? q)
theorem orAll_mem {fs:List W4}:∀(is:List Nat) {a:W4}{j:Nat},mem (orAll fs is a) j↔mem a j∨∃ i,i∈is∧mem (fs.getD i W4.none) j
 |[],a,j=>by simp[orAll]
 |i::is,a,j=>by
  have:=orAll_mem (fs:=fs) is (a:=a.or (fs.getD i W4.none)) (j:=j)
  unfold orAll at this ⊢
  rw[List.foldl_cons,this,mem_or]
  constructor
  ·rintro((h|h)|⟨k,hk,h⟩)
   ·exact .inl h
   ·exact .inr ⟨i,by simp,h⟩
   ·exact .inr ⟨k,by simp[hk],h⟩
  ·rintro(h|⟨k,hk,h⟩)
   ·exact .inl (.inl h)
   ·rcases List.mem_cons.1 hk with rfl|hk
    ·exact .inl (.inr h)
    ·exact .inr ⟨k,hk,h⟩
theorem rdM_mem {b:Nat}:∀(bs:List (Nat→Bool)) (i:Nat) (a:W4) {j:Nat},i+bs.length≤64→(mem (rdM b bs i a) j↔mem a j∨(i≤j∧bs.getD (j-i) (fun _=>false) b=true))
 |[],i,a,j,_=>by simp[rdM]
 |S::bs,i,a,j,h=>by
  simp only[List.length_cons] at h
  simp only[rdM]
  rw[rdM_mem bs (i+1) _ (by omega)]
  have h1:mem (if S b then a.or (bit1 i) else a) j↔mem a j∨(j=i∧S b=true):=by
   cases S b<;>simp[mem_or,mem_bit (show i<64 by omega)]
  rw[h1]
  rcases Nat.lt_trichotomy j i with q|q|q
  ·have q1:¬ j=i:=by omega
   have q2:¬ i≤j:=by omega
   have q3:¬ i+1≤j:=by omega
   simp[q1,q2,q3]
  ·subst q
   have q3:¬ j+1≤j:=by omega
   simp[q3]
  ·have q1:¬ j=i:=by omega
   have q2:i≤j:=by omega
   have q3:i+1≤j:=by omega
   have q4:j-i=(j-(i+1))+1:=by omega
   simp only[q1,q2,q3,q4,List.getD_cons_succ,false_and,or_false,true_and]
def Suf (front:Bool) (u v:List Nat):Prop:=∃ x,u=x++v∧(front=true→x=[])
theorem suf_nil {front:Bool}{u:List Nat}{b:Nat}:Suf front (u++[b]) []↔front=false:=by
 constructor
 ·rintro⟨x,e,h⟩
  cases front with
  |false=>rfl
  |true=>rw[h rfl] at e;simp at e
 ·intro h;exact⟨u++[b],by simp,fun q=>by rw[h] at q;cases q⟩
theorem suf_snoc {front:Bool}{u v:List Nat}{b:Nat} (hv:v≠[]):Suf front (u++[b]) v↔∃ v',v=v'++[b]∧Suf front u v':=by
 constructor
 ·rintro⟨x,e,h⟩
  obtain⟨v',c,rfl⟩:∃ v' c,v=v'++[c]:=⟨v.dropLast,v.getLast hv,(List.dropLast_concat_getLast hv).symm⟩
  rw[←List.append_assoc] at e
  obtain⟨e1,e2⟩:=List.append_inj' e rfl
  injection e2 with e2
  subst e2
  exact⟨v',rfl,x,e1,h⟩
 ·rintro⟨v',rfl,x,rfl,h⟩
  exact⟨x,by simp,h⟩
theorem pth_snoc {e:Ex}{b i:Nat}:∀ {v:List Nat}{s:Nat},Pth e s (v++[b]) i↔(v=[]∧s=i∧byt e i b=true)∨∃ t,Pth e s v t∧fol e t i∧byt e i b=true
 |[],s=>by
  constructor
  ·intro h
   cases h with
   |one h=>exact .inl ⟨rfl,rfl,h⟩
   |step h f r=>exact(r.ne rfl).elim
  ·rintro(⟨-,rfl,h⟩|⟨t,h,-⟩)
   ·exact .one h
   ·exact(h.ne rfl).elim
 |c::v,s=>by
  constructor
  ·intro h
   generalize hw:c::v++[b]=w at h
   cases h with
   |one h=>simp at hw
   | @step _ c' s' _ w h f r=>
    simp only[List.cons_append,List.cons.injEq] at hw
    obtain⟨rfl,rfl⟩:=hw
    rcases pth_snoc.1 r with⟨rfl,rfl,q⟩|⟨t,q1,q2,q3⟩
    ·exact .inr ⟨s,.one h,f,q⟩
    ·exact .inr ⟨t,.step h f q1,q2,q3⟩
  ·rintro(⟨h,-⟩|⟨t,h,f,q⟩)
   ·cases h
   ·exact h.append f (.one q)
structure StIs (e:Ex) (p:Pc) (front:Bool) (L:Lng) (n:Nat) (u:List Nat) (q:Stt):Prop where
 sp:Sp n q.w
 nx:∀ j,mem q.w j↔(mem p.first j∧Suf front u [])∨∃ v s t,Suf front u v∧mem p.first s∧Pth e s v t∧fol e t j
 en:q.ends=true↔∃ v,Suf front u v∧L v
theorem stIs_first {e:Ex}{p:Pc}{front:Bool}{L:Lng}{n:Nat}{S:Nat→Prop} (hp:Pcs n p) (hr:Rep e S p L):StIs e p front L n [] (stOf p.first p.empty):=by
 have key:∀ v,Suf front [] v↔v=[]:=fun v=>by
  constructor
  ·rintro⟨x,h,-⟩
   exact(List.append_eq_nil_iff.1 h.symm).2
  ·rintro rfl;exact⟨[],rfl,fun _=>rfl⟩
 refine⟨hp.f,fun j=>?_,?_⟩
 ·show mem p.first j↔_
  constructor
  ·exact fun h=>.inl ⟨h,(key []).2 rfl⟩
  ·rintro(h|⟨v,s,t,h1,_,h2,_⟩)
   ·exact h.1
   ·exact(h2.ne ((key v).1 h1)).elim
 ·show p.empty=true↔_
  rw[hr.em]
  constructor
  ·exact fun h=>⟨[],(key []).2 rfl,h⟩
  ·rintro⟨v,h1,h2⟩
   rw[(key v).1 h1] at h2
   exact h2
theorem stIs_step {e:Ex}{p:Pc}{front:Bool}{L:Lng}{n:Nat}{S:Nat→Prop}{u:List Nat}{q:Stt}{b:Nat}{rd:W4} (hn:n≤64) (he:ExOk n e) (hp:Pcs n p) (hr:Rep e S p L) (h:StIs e p front L n u q) (hrd:∀ j,mem rd j↔byt e j b=true) :
  StIs e p front L n (u++[b]) (stepM ⟨e.fs,p,front⟩ q rd):=by
 have hsp:Sp n (q.w.and rd):=h.sp.and rd
 have hA:∀ i,i∈(q.w.and rd).all↔∃ v s,Suf front u v∧mem p.first s∧Pth e s (v++[b]) i:=fun i=>by
  rw[hsp.all_mem hn,mem_and,hrd,h.nx]
  constructor
  ·rintro⟨(⟨h1,h2⟩|⟨v,s,t,h1,h2,h3,h4⟩),hb⟩
   ·exact⟨[],i,h2,h1,.one hb⟩
   ·exact⟨v,s,h1,h2,pth_snoc.2 (.inr ⟨t,h3,h4,hb⟩)⟩
  ·rintro⟨v,s,h1,h2,h3⟩
   rcases pth_snoc.1 h3 with⟨rfl,rfl,hb⟩|⟨t,k1,k2,hb⟩
   ·exact⟨.inl ⟨h2,h1⟩,hb⟩
   ·exact⟨.inr ⟨v,s,t,h1,h2,k1,k2⟩,hb⟩
 have hN:∀ j,mem (orAll e.fs (q.w.and rd).all W4.none) j↔∃ v s t,Suf front (u++[b]) v∧mem p.first s∧Pth e s v t∧fol e t j:=fun j=>by
  rw[orAll_mem]
  constructor
  ·rintro(h1|⟨i,hi,h1⟩)
   ·exact(mem_none j h1).elim
   ·obtain⟨v,s,k1,k2,k3⟩:=(hA i).1 hi
    exact⟨v++[b],s,i,(suf_snoc (by simp)).2 ⟨v,rfl,k1⟩,k2,k3,h1⟩
  ·rintro⟨v,s,t,k1,k2,k3,k4⟩
   obtain⟨v',rfl,k5⟩:=(suf_snoc k3.ne).1 k1
   exact .inr ⟨t,(hA t).2 ⟨v',s,k5,k2,k3⟩,k4⟩
 have hE:(!((q.w.and rd).and p.last).isE)=true↔∃ v,v≠[]∧Suf front (u++[b]) v∧L v:=by
  have h1:=(hsp.and p.last).isE
  constructor
  ·intro h2
   have h3:¬ ∀ i,¬ mem ((q.w.and rd).and p.last) i:=fun k=>by rw[h1.2 k] at h2;cases h2
   obtain⟨i,hi⟩:=Classical.not_forall.1 h3
   have hi:=Classical.not_not.1 hi
   obtain⟨k1,k2⟩:=mem_and.1 hi
   obtain⟨v,s,k3,k4,k5⟩:=(hA i).1 ((hsp.all_mem hn).2 k1)
   exact⟨v++[b],by simp,(suf_snoc (by simp)).2 ⟨v,rfl,k3⟩,(hr.w _ (by simp)).2 ⟨s,i,k4,k2,k5⟩⟩
  ·rintro⟨v,hv,k1,k2⟩
   obtain⟨v',rfl,k5⟩:=(suf_snoc hv).1 k1
   obtain⟨s,t,k6,k7,k8⟩:=(hr.w _ hv).1 k2
   have:¬((q.w.and rd).and p.last).isE=true:=fun h2=>h1.1 h2 t (mem_and.2 ⟨(hsp.all_mem hn).1 ((hA t).2 ⟨v',s,k5,k6,k8⟩),k7⟩)
   simpa using this
 have hso:=Sp.orS he.s (q.w.and rd).all (Sp.none n)
 cases front with
 |true=>
  refine⟨hso,fun j=>?_,?_⟩
  ·show mem (orAll e.fs (q.w.and rd).all W4.none) j↔_
   rw[hN]
   constructor
   ·exact .inr
   ·rintro(⟨-,k⟩|k)
    ·have:=suf_nil.1 k;cases this
    ·exact k
  ·show(!((q.w.and rd).and p.last).isE)=true↔_
   rw[hE]
   constructor
   ·rintro⟨v,_,k⟩;exact⟨v,k⟩
   ·rintro⟨v,k1,k2⟩
    refine⟨v,?_,k1,k2⟩
    rintro rfl
    have:=suf_nil.1 k1;cases this
 |false=>
  refine⟨hso.or hp.f,fun j=>?_,?_⟩
  ·show mem ((orAll e.fs (q.w.and rd).all W4.none).or p.first) j↔_
   rw[mem_or,hN]
   constructor
   ·rintro(k|k)
    ·exact .inr k
    ·exact .inl ⟨k,suf_nil.2 rfl⟩
   ·rintro(⟨k,-⟩|k)
    ·exact .inr k
    ·exact .inl k
  ·show(!((q.w.and rd).and p.last).isE||p.empty)=true↔_
   rw[Bool.or_eq_true,hE,hr.em]
   constructor
   ·rintro(⟨v,_,k⟩|k)
    ·exact⟨v,k⟩
    ·exact⟨[],suf_nil.2 rfl,k⟩
   ·rintro⟨v,k1,k2⟩
    by_cases hv:v=[]
    ·subst hv;exact .inr k2
    ·exact .inl ⟨v,hv,k1,k2⟩
def rnT (t:Tn) (s:Nat) (u:List UInt8):Nat:=u.foldl (fun q b=>nx t q (t.cls.getD b.toNat 0)) s
theorem rnT_snoc (t:Tn) (s:Nat) (u:List UInt8) (b:UInt8):rnT t s (u++[b])=nx t (rnT t s u) (t.cls.getD b.toNat 0):=by simp[rnT]
theorem snoc_ind {α:Type}{P:List α→Prop} (h0:P []) (h1:∀ u b,P u→P (u++[b])) (u:List α):P u:=by
 have:∀ v:List α,P v.reverse:=fun v=>by
  induction v with
  |nil=>exact h0
  |cons a v ih=>rw[List.reverse_cons];exact h1 _ _ ih
 have:=this u.reverse
 rwa [List.reverse_reverse] at this
theorem map_getD {α β:Type}{l:List α} (f:α→β) {i:Nat} (h:i<l.length) (d:β):(l.map f).getD i d=f l[i]:=by
 simp[h]
theorem ixL_some {α:Type} [DecidableEq α] {l:List α}{x:α} (h:x∈l):l[ixL l x]?=some x:=by
 rw[List.getElem?_eq_getElem (ixL_lt h),ixL_get h]
theorem told_step {α β:Type} [DecidableEq α] {step:α→β→α}{rs:List β}{met:List α}{rows:List (List Nat)} (hr:RwInv step rs met met.length rows) {i c:Nat}{q:α} (hq:met[i]?=some q) (hc:c<rs.length):met[(rows.getD i []).getD c 0]?=some (step q rs[c]):=by
 have hi:=(List.getElem?_eq_some_iff.1 hq).1
 obtain⟨r1,r2⟩:=hr.r i q hi hq
 rw[List.getD_eq_getElem?_getD (l:=rows),r1,Option.getD_some,map_getD _ hc]
 exact ixL_some (r2 _ (List.getElem_mem hc))
theorem rds_byte (bs:List (Nat→Bool)) (b:UInt8):(rdsM bs)[b.toNat]?=some (rdM b.toNat bs 0 W4.none):=by
 have:=b.toNat_lt
 unfold rdsM
 rw[List.getElem?_map,List.getElem?_range this];rfl
theorem searchM_run {p:Sx.Ptn}{limit:Nat}{t:Tn} (hT:TrOkVs p.choices) (h:searchM p limit=some t) (u:List UInt8):ac t (rnT t 0 u)=true↔∃ v,Suf p.front (u.map UInt8.toNat) v∧LCs p.choices v:=by
 unfold searchM at h
 split at h
 ·simp at h
 ·rename_i hs
  obtain⟨w1,w2,w3⟩:=whole_r hT (by omega)
  have hn:spCs p.choices≤64:=by omega
  generalize spCs p.choices=n at *
  split at h
  ·simp at h
  ·rename_i x hx
   generalize exCs p.choices pc0 ⟨[],[]⟩=ee at *
   obtain⟨hr,hp⟩:=stsM_told (show RwInv _ _ [_] 0 [] from⟨rfl,Nat.zero_le _,fun i q hi=>absurd hi (by omega)⟩) hx
   have hbs:=w1.b
   have hR:∀ b:UInt8,∃ q,(rdsM ee.2.bs)[b.toNat]?=some q∧∀ j,mem q j↔byt ee.2 j b.toNat=true:=fun b=>⟨_,rds_byte _ b,fun j=>by
    rw[rdM_mem _ _ _ (by omega)]
    unfold byt
    simp[mem_none]⟩
   generalize hrd:rdsM ee.2.bs=R at *
   clear hrd
   simp at h
   have inv:∀ u:List UInt8,∃ q,x.1[rnT t 0 u]?=some q∧StIs ee.2 ee.1 p.front (LCs p.choices) n (u.map UInt8.toNat) q:=by
    refine snoc_ind ?_ ?_
    ·refine⟨_,?_,stIs_first w2 w3⟩
     show x.1[0]?=_
     rw[pre_get hp (by simp)];rfl
    ·rintro u b ⟨q,h1,h2⟩
     obtain⟨rd,k1,k2⟩:=hR b
     have hm:rd∈R:=List.mem_of_getElem? k1
     have hm2:rd∈metL [] R:=mem_metL.2 (.inr hm)
     have hlt:=ixL_lt hm2
     have e1:t.cls.getD b.toNat 0=ixL (metL [] R) rd:=by
      rw[←h,List.getD_eq_getElem?_getD,List.getElem?_map,k1];rfl
     have e2:=told_step hr h1 hlt
     rw[ixL_get hm2] at e2
     refine⟨_,?_,by rw[List.map_append];exact stIs_step hn w1 w2 w3 h2 k2⟩
     rw[rnT_snoc,e1]
     rw[show nx t (rnT t 0 u) (ixL (metL [] R) rd)=(x.2.getD (rnT t 0 u) []).getD (ixL (metL [] R) rd) 0 by rw[←h];rfl]
     exact e2
   obtain⟨q,h1,h2⟩:=inv u
   have e1:ac t (rnT t 0 u)=q.ends:=by
    have:t.acc=x.1.map (·.ends):=by rw[←h]
    unfold ac
    rw[this,List.getD_eq_getElem?_getD,List.getElem?_map,h1];rfl
   rw[e1]
   exact h2.en
section
variable {α β γ δ ε:Type} [DecidableEq α] [DecidableEq β] [DecidableEq γ]
end
def res (t:Tn) (s:Nat) (v:List UInt8):Bool:=ac t (rnT t s v)
end Go.Proofs.YtbjabpodkaokjaaGreatDoor
