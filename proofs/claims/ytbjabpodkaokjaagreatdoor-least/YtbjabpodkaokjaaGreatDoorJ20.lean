import Derived.Test.YtbjabpodkaokjaaGreatDoorJ07
import Derived.Test.YtbjabpodkaokjaaGreatDoorJ13
import Derived.Test.YtbjabpodkaokjaaGreatDoorJ06
import Derived.Test.YtbjabpodkaokjaaGreatDoorJ03
import Derived.BigQuiet
import Derived.Test.YtbjabpodkaokjaaGreatDoorJ15
set_option linter.unusedVariables false
set_option linter.unusedSimpArgs false
set_option maxHeartbeats 4000000
set_option maxRecDepth 100000
namespace Go.Proofs.YtbjabpodkaokjaaGreatDoor
open Sx (Prt Cnt)
structure Pc where
 first:W4
 last:W4
 empty:Bool
structure Ex where
 bs:List (Nat→Bool)
 fs:List W4
abbrev Mk:=Ex→Pc×Ex
def cop (c:Cnt):Nat:=if c.sign≠123 then 1 else if c.most=-1 then c.least.toNat+1 else c.most.toNat
def spN (n:Nat):List Cnt→Nat
 |[]=>n
 |c::cs=>spN n cs*cop c
mutual
def spP:Prt→Nat
 |.mk g _ cs=>spN (match g with|[]=>1|c::gs=>spC c+spCs gs) cs.reverse
def spC:List Prt→Nat
 |[]=>0
 |p::ps=>spP p+spC ps
def spCs:List (List Prt)→Nat
 |[]=>0
 |c::cs=>spC c+spCs cs
end
def spA (g:List (List Prt)):Nat:=match g with|[]=>1|c::gs=>spC c+spCs gs
def pcN:Pc:=⟨W4.none,W4.none,true⟩
def pc0:Pc:=⟨W4.none,W4.none,false⟩
def Pc.alt (a b:Pc):Pc:=⟨a.first.or b.first,a.last.or b.last,a.empty||b.empty⟩
def Pc.join (a b:Pc):Pc:=⟨if a.empty then a.first.or b.first else a.first,if b.empty then b.last.or a.last else b.last,a.empty&&b.empty⟩
def Pc.may (a:Pc):Pc:={a with empty:=true}
def foM (fs:List W4) (l f:W4):List W4:=l.all.foldl (fun fs i=>fs.modify i (·.or f)) fs
def Ex.join (e:Ex) (a b:Pc):Ex:={e with fs:=foM e.fs a.last b.first}
def bit1 (n:Nat):W4:=if n<64 then⟨2 ^ n,0,0,0⟩ else if n<128 then⟨0,2 ^ (n-64),0,0⟩ else if n<192 then⟨0,0,2 ^ (n-128),0⟩ else⟨0,0,0,2 ^ (n-192)⟩
def newM (S:Nat→Bool):Mk:=fun e=>(⟨bit1 e.bs.length,bit1 e.bs.length,false⟩,⟨e.bs++[S],e.fs++[W4.none]⟩)
def agM (f:Mk):Mk:=fun e=>((f e).1,(f e).2.join (f e).1 (f e).1)
def mayM (f:Mk):Mk:=fun e=>((f e).1.may,(f e).2)
def ontoM (f:Mk) (r:Pc):Mk:=fun e=>((f e).1.join r,(f e).2.join (f e).1 r)
def iterM (g:Pc→Mk):Nat→Pc→Mk
 |0,r,e=>(r,e)
 |n+1,r,e=>iterM g n (g r e).1 (g r e).2
def braceM (f:Mk) (least most:Nat) (r:Pc):Mk:=fun e=>
 let x:=iterM (fun r=>mayM (ontoM f r)) (most-least) r e
 iterM (ontoM f) least x.1 x.2
def timesM (f:Mk) (c:Cnt):Mk:=
 if c.sign=42 then mayM (agM f) else if c.sign=43 then agM f else if c.sign=63 then mayM f else
 if c.most=-1 then fun e=>braceM f c.least.toNat c.least.toNat (mayM (agM f) e).1 (mayM (agM f) e).2
 else braceM f c.least.toNat c.most.toNat pcN
def partM (a:Mk) (n:Nat):List Cnt→Mk
 |[]=>if n=0 then fun e=>(pcN,e) else a
 |c::cs=>if spN n (c::cs)=0 then fun e=>(pcN,e) else timesM (partM a n cs) c
mutual
def exP:Prt→Mk
 |.mk g S cs=>partM (match g with|[]=>newM S|c::gs=>fun e=>exCs gs (pc0.alt (exC c pcN e).1) (exC c pcN e).2) (spA g) cs.reverse
def exC:List Prt→Pc→Mk
 |[],a,e=>(a,e)
 |p::ps,a,e=>exC ps (a.join (exP p e).1) ((exP p e).2.join a (exP p e).1)
def exCs:List (List Prt)→Pc→Mk
 |[],a,e=>(a,e)
 |c::cs,a,e=>exCs cs (a.alt (exC c pcN e).1) (exC c pcN e).2
end
theorem low_le {x n:Nat} (h0:x≠0) (h:x<18446744073709551616) (hx:x<2 ^ n):low x<n:=by
 obtain⟨m,h1,-⟩:=Lib.ctzFrom_spec 64 x (by omega) (by simpa using h)
 have h2:low x=Lib.ctzFrom 64 x:=by simp[low,Lib.ctz,h0]
 rw[←h2] at h1
 have h3:2 ^ low x≤x:=by
  conv=>rhs;rw[h1]
  exact Nat.le_mul_of_pos_right _ (by omega)
 exact(Nat.pow_lt_pow_iff_right (a:=2) (by omega)).1 (Nat.lt_of_le_of_lt h3 hx)
theorem onB_lt {n:Nat}:∀(x:Nat),x<18446744073709551616→x<2 ^ n→∀ i∈onB x,i<n:=by
 intro x
 induction x using Nat.strongRecOn with
 |_ x ih=>
  intro h hx i hi
  by_cases h0:x=0
  ·subst h0;rw[onB_zero] at hi;simp at hi
  ·rw[onB_pos h0] at hi
   have hl:=off1_lt h0
   rcases List.mem_cons.1 hi with rfl|hi
   ·exact low_le h0 h hx
   ·exact ih _ hl (by omega) (by omega) i hi
structure Sp (n:Nat) (s:W4):Prop where
 b:s.x0<2 ^ n
 z1:s.x1=0
 z2:s.x2=0
 z3:s.x3=0
theorem Sp.none (n:Nat):Sp n W4.none:=⟨Nat.pow_pos (by omega),rfl,rfl,rfl⟩
theorem Sp.mono {n m:Nat}{s:W4} (h:Sp n s) (hm:n≤m):Sp m s:=⟨Nat.lt_of_lt_of_le h.b (Nat.pow_le_pow_right (by omega) hm),h.z1,h.z2,h.z3⟩
theorem Sp.or {n:Nat}{s t:W4} (h:Sp n s) (g:Sp n t):Sp n (s.or t):=⟨Nat.or_lt_two_pow h.b g.b,by simp[W4.or,h.z1,g.z1],by simp[W4.or,h.z2,g.z2],by simp[W4.or,h.z3,g.z3]⟩
theorem Sp.and {n:Nat}{s:W4} (h:Sp n s) (t:W4):Sp n (s.and t):=⟨Nat.lt_of_le_of_lt Nat.and_le_left h.b,by simp[W4.and,h.z1],by simp[W4.and,h.z2],by simp[W4.and,h.z3]⟩
theorem Sp.bit {n:Nat} (hn:n<64):Sp (n+1) (bit1 n):=by
 unfold bit1
 rw[if_pos hn]
 exact⟨Nat.pow_lt_pow_right (by omega) (by omega),rfl,rfl,rfl⟩
theorem Sp.ok {n:Nat}{s:W4} (h:Sp n s) (hn:n≤64):s.ok:=
 ⟨Nat.lt_of_lt_of_le h.b (Nat.le_trans (Nat.pow_le_pow_right (by omega) hn) (by decide)),by rw[h.z1];omega,by rw[h.z2];omega,by rw[h.z3];omega⟩
theorem Sp.lt {n:Nat}{s:W4} (h:Sp n s) (hn:n≤64):∀ i∈s.all,i<n:=by
 intro i hi
 have ho:=(h.ok hn).l0
 simp only[W4.all,h.z1,h.z2,h.z3,onB_zero,List.map_nil,List.append_nil] at hi
 exact onB_lt _ ho h.b i hi
structure Pcs (n:Nat) (p:Pc):Prop where
 f:Sp n p.first
 l:Sp n p.last
structure ExOk (n:Nat) (e:Ex):Prop where
 b:e.bs.length=n
 f:e.fs.length=n
 s:∀ x∈e.fs,Sp n x
theorem Pcs.mono {n m:Nat}{p:Pc} (h:Pcs n p) (hm:n≤m):Pcs m p:=⟨h.f.mono hm,h.l.mono hm⟩
theorem Pcs.n (n:Nat):Pcs n pcN:=⟨Sp.none n,Sp.none n⟩
theorem Pcs.zero (n:Nat):Pcs n pc0:=⟨Sp.none n,Sp.none n⟩
theorem Pcs.alt {n:Nat}{a b:Pc} (h:Pcs n a) (g:Pcs n b):Pcs n (a.alt b):=⟨h.f.or g.f,h.l.or g.l⟩
theorem Pcs.join {n:Nat}{a b:Pc} (h:Pcs n a) (g:Pcs n b):Pcs n (a.join b):=by
 unfold Pc.join
 refine⟨?_,?_⟩
 ·show Sp n (if a.empty then a.first.or b.first else a.first)
  split
  ·exact h.f.or g.f
  ·exact h.f
 ·show Sp n (if b.empty then b.last.or a.last else b.last)
  split
  ·exact g.l.or h.l
  ·exact g.l
theorem Pcs.may {n:Nat}{a:Pc} (h:Pcs n a):Pcs n a.may:=⟨h.f,h.l⟩
theorem foM_len (fs:List W4) (l f:W4):(foM fs l f).length=fs.length:=by
 unfold foM
 induction l.all generalizing fs with
 |nil=>rfl
 |cons i is ih=>simp only[List.foldl_cons];rw[ih];simp
theorem mem_modify {α:Type}{g:α→α}:∀ {l:List α}{i:Nat}{x:α},x∈l.modify i g→x∈l∨∃ y∈l,x=g y
 |[],i,x,h=>by simp at h
 |a::l,0,x,h=>by
  simp[List.modify_cons] at h
  rcases h with h|h
  ·exact .inr ⟨a,by simp,h⟩
  ·exact .inl (by simp[h])
 |a::l,i+1,x,h=>by
  simp at h
  rcases h with h|h
  ·exact .inl (by simp[h])
  ·rcases mem_modify h with h|⟨y,hy,h⟩
   ·exact .inl (by simp[h])
   ·exact .inr ⟨y,by simp[hy],h⟩
theorem foM_sp {n:Nat}{fs:List W4} (l:W4) {f:W4} (h:∀ x∈fs,Sp n x) (hf:Sp n f):∀ x∈foM fs l f,Sp n x:=by
 unfold foM
 induction l.all generalizing fs with
 |nil=>exact h
 |cons i is ih=>
  simp only[List.foldl_cons]
  refine ih (fun x hx=>?_)
  rcases mem_modify hx with hx|⟨y,hy,rfl⟩
  ·exact h x hx
  ·exact(h y hy).or hf
theorem ExOk.join {n:Nat}{e:Ex}{a b:Pc} (h:ExOk n e) (g:Pcs n b):ExOk n (e.join a b):=⟨h.b,(foM_len _ _ _).trans h.f,foM_sp _ h.s g.f⟩
def MkOk (f:Mk) (k:Nat):Prop:=∀ n e,n+k≤64→ExOk n e→ExOk (n+k) (f e).2∧Pcs (n+k) (f e).1
theorem newM_ok (S:Nat→Bool):MkOk (newM S) 1:=fun n e hn h=>by
 unfold newM
 have hb:=h.b
 refine⟨⟨by simp[hb],by simp[h.f],fun x hx=>?_⟩,?_,?_⟩
 ·simp at hx
  rcases hx with hx|rfl
  ·exact(h.s x hx).mono (by omega)
  ·exact Sp.none _
 ·simp only[hb];exact Sp.bit (by omega)
 ·simp only[hb];exact Sp.bit (by omega)
theorem agM_ok {f:Mk}{k:Nat} (h:MkOk f k):MkOk (agM f) k:=fun n e hn he=>by
 obtain⟨h1,h2⟩:=h n e hn he
 exact⟨h1.join h2,h2⟩
theorem mayM_ok {f:Mk}{k:Nat} (h:MkOk f k):MkOk (mayM f) k:=fun n e hn he=>by
 obtain⟨h1,h2⟩:=h n e hn he
 exact⟨h1,h2.may⟩
theorem ontoM_ok {f:Mk}{k:Nat} (h:MkOk f k) {r:Pc}{n:Nat}{e:Ex} (hn:n+k≤64) (he:ExOk n e) (hr:Pcs n r):ExOk (n+k) (ontoM f r e).2∧Pcs (n+k) (ontoM f r e).1:=by
 obtain⟨h1,h2⟩:=h n e hn he
 exact⟨h1.join (hr.mono (by omega)),h2.join (hr.mono (by omega))⟩
theorem iterM_ok {g:Pc→Mk}{k:Nat} (h:∀ n e r,n+k≤64→ExOk n e→Pcs n r→ExOk (n+k) (g r e).2∧Pcs (n+k) (g r e).1):∀(m n:Nat) (e:Ex) (r:Pc),n+k*m≤64→ExOk n e→Pcs n r→ExOk (n+k*m) (iterM g m r e).2∧Pcs (n+k*m) (iterM g m r e).1
 |0,n,e,r,_,he,hr=>⟨he,hr⟩
 |m+1,n,e,r,hn,he,hr=>by
  rw[Nat.mul_succ] at hn ⊢
  obtain⟨h1,h2⟩:=h n e r (by omega) he hr
  have:=iterM_ok h m (n+k) (g r e).2 (g r e).1 (by omega) h1 h2
  simp only[iterM]
  rw[show n+(k*m+k)=n+k+k*m by omega]
  exact this
theorem braceM_ok {f:Mk}{k:Nat} (h:MkOk f k) {a b n:Nat}{e:Ex}{r:Pc} (hab:a≤b) (hn:n+k*b≤64) (he:ExOk n e) (hr:Pcs n r):ExOk (n+k*b) (braceM f a b r e).2∧Pcs (n+k*b) (braceM f a b r e).1:=by
 have hkb:k*b=k*(b-a)+k*a:=by rw[←Nat.mul_add];congr 1;omega
 rw[hkb] at hn ⊢
 obtain⟨h1,h2⟩:=iterM_ok (g:=fun r=>mayM (ontoM f r)) (k:=k) (fun n e r hn he hr=>⟨(ontoM_ok h hn he hr).1,(ontoM_ok h hn he hr).2.may⟩) (b-a) n e r (by omega) he hr
 have:=iterM_ok (g:=ontoM f) (k:=k) (fun n e r hn he hr=>ontoM_ok h hn he hr) a (n+k*(b-a)) _ _ (by omega) h1 h2
 unfold braceM
 rw[←Nat.add_assoc]
 exact this
def CntOk (c:Cnt):Prop:=c.sign=42∨c.sign=43∨c.sign=63∨(c.sign=123∧0≤c.least∧c.least≤30∧(c.most=-1∨(c.least≤c.most∧c.most≤30)))
theorem timesM_ok {f:Mk}{k:Nat}{c:Cnt} (h:MkOk f k) (hc:CntOk c):MkOk (timesM f c) (k*cop c):=fun n e hn he=>by
 unfold timesM
 rcases hc with hs|hs|hs|⟨hs,h0,h3,h1⟩
 ·have:cop c=1:=by simp[cop,hs]
  rw[this,Nat.mul_one] at hn ⊢
  rw[if_pos hs];exact mayM_ok (agM_ok h) n e hn he
 ·have:cop c=1:=by simp[cop,hs]
  rw[this,Nat.mul_one] at hn ⊢
  rw[if_neg (by rw[hs];decide),if_pos hs];exact agM_ok h n e hn he
 ·have:cop c=1:=by simp[cop,hs]
  rw[this,Nat.mul_one] at hn ⊢
  rw[if_neg (by rw[hs];decide),if_neg (by rw[hs];decide),if_pos hs];exact mayM_ok h n e hn he
 ·rw[if_neg (by rw[hs];decide),if_neg (by rw[hs];decide),if_neg (by rw[hs];decide)]
  rcases h1 with h1|h1
  ·have:cop c=c.least.toNat+1:=by simp[cop,hs,h1]
   rw[this,Nat.mul_succ] at hn ⊢
   rw[if_pos h1]
   obtain⟨g1,g2⟩:=mayM_ok (agM_ok h) n e (by omega) he
   have:=braceM_ok h (Nat.le_refl c.least.toNat) (n:=n+k) (by omega) g1 g2
   rw[show n+(k*c.least.toNat+k)=n+k+k*c.least.toNat by omega]
   exact this
  ·have hm:¬ c.most=-1:=by omega
   have:cop c=c.most.toNat:=by simp[cop,hs,hm]
   rw[this] at hn ⊢
   rw[if_neg hm]
   exact braceM_ok h (by omega) hn he (Pcs.n _)
theorem partM_ok {a:Mk}{k:Nat} (h:MkOk a k):∀ {cs:List Cnt},(∀ c∈cs,CntOk c)→MkOk (partM a k cs) (spN k cs)
 |[],_=>fun n e hn he=>by
  simp only[partM,spN] at hn ⊢
  split
  ·rename_i h0;subst h0;exact⟨he,Pcs.n _⟩
  ·exact h n e hn he
 |c::cs,hc=>fun n e hn he=>by
  simp only[partM]
  split
  ·rename_i h0;rw[h0];exact⟨he,Pcs.n _⟩
  ·exact timesM_ok (partM_ok h (fun c hc'=>hc c (by simp[hc']))) (hc c (by simp)) n e hn he
mutual
def TrOk:Prt→Prop
 |.mk g _ cs=>(∀ c∈cs,CntOk c)∧TrOkVs g
def TrOkC:List Prt→Prop
 |[]=>True
 |p::ps=>TrOk p∧TrOkC ps
def TrOkVs:List (List Prt)→Prop
 |[]=>True
 |c::cs=>TrOkC c∧TrOkVs cs
end
theorem exP_eq (g:List (List Prt)) (S:Nat→Bool) (cs:List Cnt):exP (.mk g S cs)=partM (match g with|[]=>newM S|_::_=>exCs g pc0) (spA g) cs.reverse:=by
 cases g with
 |nil=>simp[exP]
 |cons c gs=>simp only[exP];congr 1
theorem spA_cons (c:List Prt) (gs:List (List Prt)):spA (c::gs)=spCs (c::gs):=by simp[spA,spCs]
theorem spP_eq (g:List (List Prt)) (S:Nat→Bool) (cs:List Cnt):spP (.mk g S cs)=spN (spA g) cs.reverse:=by
 cases g<;>simp[spP,spA]
mutual
theorem exP_ok:∀(p:Prt),TrOk p→MkOk (exP p) (spP p)
 |.mk g S cs,h=>by
  simp only[TrOk] at h
  rw[spP_eq,exP_eq]
  refine partM_ok ?_ (fun c hc=>h.1 c (by simpa using hc))
  match g,h with
  |[],h=>exact newM_ok S
  |c::gs,h=>
   rw[spA_cons]
   exact fun n e hn he=>exCs_ok (c::gs) h.2 n e pc0 hn he (Pcs.zero n)
theorem exC_ok:∀(ps:List Prt),TrOkC ps→∀ n e a,n+spC ps≤64→ExOk n e→Pcs n a→ExOk (n+spC ps) (exC ps a e).2∧Pcs (n+spC ps) (exC ps a e).1
 |[],_,n,e,a,_,he,ha=>by simpa [exC,spC] using⟨he,ha⟩
 |p::ps,h,n,e,a,hn,he,ha=>by
  simp only[TrOkC] at h
  simp only[spC] at hn ⊢
  obtain⟨h1,h2⟩:=exP_ok p h.1 n e (by omega) he
  have ha':=ha.mono (show n≤n+spP p by omega)
  have:=exC_ok ps h.2 (n+spP p) ((exP p e).2.join a (exP p e).1) (a.join (exP p e).1) (by omega) (h1.join h2) (ha'.join h2)
  simp only[exC]
  rw[←Nat.add_assoc]
  exact this
theorem exCs_ok:∀(cs:List (List Prt)),TrOkVs cs→∀ n e a,n+spCs cs≤64→ExOk n e→Pcs n a→ExOk (n+spCs cs) (exCs cs a e).2∧Pcs (n+spCs cs) (exCs cs a e).1
 |[],_,n,e,a,_,he,ha=>by simpa [exCs,spCs] using⟨he,ha⟩
 |c::cs,h,n,e,a,hn,he,ha=>by
  simp only[TrOkVs] at h
  simp only[spCs] at hn ⊢
  obtain⟨h1,h2⟩:=exC_ok c h.1 n e pcN (by omega) he (Pcs.n n)
  have:=exCs_ok cs h.2 (n+spC c) (exC c pcN e).2 (a.alt (exC c pcN e).1) (by omega) h1 ((ha.mono (by omega)).alt h2)
  simp only[exCs]
  rw[←Nat.add_assoc]
  exact this
end
theorem begins_le' {v l:Int} (h:Sx.beginsNum v l=true):v≤30:=by
 unfold Sx.beginsNum at h
 split at h
 ·simp at h
 ·omega
theorem pDigits_ok {l v:Int}{b:Bool}{z:Int}{r r':List UInt8} (hv:0≤v∧v≤30) (h:Sx.pDigits l v b r=.ok z r'):0≤z∧z≤30∧l≤z:=by
 induction r generalizing v b with
 |nil=>
  simp only[Sx.pDigits] at h;split at h
  ·rename_i hc;injection h with e _;subst e;exact⟨hv.1,hv.2,hc.2⟩
  ·simp at h
 |cons c t ih=>
  simp only[Sx.pDigits] at h
  split at h
  ·rename_i hc
   exact ih ⟨by omega,begins_le' hc.2.2.2⟩ h
  ·split at h
   ·rename_i hc;injection h with e _;subst e;exact⟨hv.1,hv.2,hc.2⟩
   ·simp at h
theorem pBounds_ok {a b:Int}{r r':List UInt8} (h:Sx.pBounds r=.ok (a,b) r'):0≤a∧a≤30∧(b=-1∨(a≤b∧b≤30)):=by
 simp only[Sx.pBounds] at h
 split at h
 ·simp at h
 ·rename_i h1
  have:=pDigits_ok ⟨by omega,by omega⟩ h1
  split at h
  ·injection h with e _;injection e with e1 e2;omega
  ·split at h
   ·simp at h
   ·rename_i h2
    have:=pDigits_ok ⟨by omega,by omega⟩ h2
    split at h
    ·injection h with e _;injection e with e1 e2;omega
    ·simp at h
  ·injection h with e _;injection e with e1 e2;omega
  ·simp at h
theorem pCounts_ok {n:Nat}{cs:List Cnt}{r r':List UInt8} (h:Sx.pCounts n r=.ok cs r'):∀ c∈cs,CntOk c:=by
 induction n generalizing r cs with
 |zero=>simp[Sx.pCounts] at h
 |succ n ih=>
  simp only[Sx.pCounts] at h
  split at h
  ·split at h
   ·rename_i hc
    split at h
    ·rename_i h1;injection h with e1 e;subst e;subst e1
     intro c hm
     rcases List.mem_cons.1 hm with rfl|hm
     ·rcases hc with rfl|rfl|rfl
      ·exact .inl rfl
      ·exact .inr (.inl rfl)
      ·exact .inr (.inr (.inl rfl))
     ·exact ih h1 c hm
    ·simp at h
   ·split at h
    ·rename_i hc
     split at h
     ·simp at h
     ·rename_i h1
      have hb:=pBounds_ok h1
      split at h
      ·rename_i h2;injection h with e1 e;subst e;subst e1
       intro c hm
       rcases List.mem_cons.1 hm with rfl|hm
       ·exact .inr (.inr (.inr ⟨hc,hb⟩))
       ·exact ih h2 c hm
      ·simp at h
    ·injection h with e1 e;subst e;subst e1;simp
  ·injection h with e1 e;subst e;subst e1;simp
theorem pTr (n:Nat) :
  (∀ r cs r',Sx.pChoices n r=.ok cs r'→TrOkVs cs) ∧
  (∀ r ps r',Sx.pChain n r=.ok ps r'→TrOkC ps) ∧
  (∀ r p r',Sx.pPart n r=.ok p r'→TrOk p) ∧
  (∀ r g B r',Sx.pAtom n r=.ok (g,B) r'→TrOkVs g):=by
 induction n with
 |zero=>exact⟨fun r cs r' h=>by simp[Sx.pChoices] at h,fun r cs r' h=>by simp[Sx.pChain] at h,fun r cs r' h=>by simp[Sx.pPart] at h,fun r g B r' h=>by simp[Sx.pAtom] at h⟩
 |succ n ih=>
  obtain⟨i1,i2,i3,i4⟩:=ih
  refine⟨fun r cs r' h=>?_,fun r ps r' h=>?_,fun r p r' h=>?_,fun r g B r' h=>?_⟩
  ·simp only[Sx.pChoices] at h
   split at h
   ·simp at h
   ·rename_i c r1 h1
    have l1:=i2 _ _ _ h1
    split at h
    ·split at h
     ·rename_i h2
      injection h with e1 e2;subst e1;subst e2
      simp only[TrOkVs];exact⟨l1,i1 _ _ _ h2⟩
     ·simp at h
    ·injection h with e1 e2;subst e1;subst e2
     simp only[TrOkVs];exact⟨l1,trivial⟩
  ·simp only[Sx.pChain] at h
   split at h
   ·split at h
    ·simp at h
    ·rename_i h1
     have l1:=i3 _ _ _ h1
     split at h
     ·rename_i h2
      injection h with e1 e2;subst e1;subst e2
      simp only[TrOkC];exact⟨l1,i2 _ _ _ h2⟩
     ·simp at h
   ·injection h with e1 e2;subst e1;subst e2;simp only[TrOkC]
  ·simp only[Sx.pPart] at h
   split at h
   ·simp at h
   ·rename_i g S r1 h1
    have l1:=i4 _ _ _ _ h1
    split at h
    ·rename_i h2
     injection h with e1 e2;subst e1;subst e2
     simp only[TrOk];exact⟨pCounts_ok h2,l1⟩
    ·simp at h
  ·simp only[Sx.pAtom] at h
   split at h
   ·simp at h
   ·split at h
    ·split at h
     ·simp at h
     ·rename_i h1
      have l1:=i1 _ _ _ h1
      split at h
      ·injection h with e1 e2;injection e1 with e3 e4;subst e3;exact l1
      ·simp at h
    ·split at h
     ·split at h
      ·injection h with e1 e2;injection e1 with e3 e4;subst e3;simp only[TrOkVs]
      ·simp at h
     ·split at h
      ·split at h
       ·injection h with e1 e2;injection e1 with e3 e4;subst e3;simp only[TrOkVs]
       ·simp at h
      ·split at h
       ·injection h with e1 e2;injection e1 with e3 e4;subst e3;simp only[TrOkVs]
       ·injection h with e1 e2;injection e1 with e3 e4;subst e3;simp only[TrOkVs]
def metL {α:Type} [DecidableEq α] (m:List α) (xs:List α):List α:=xs.foldl pushM m
section
variable {α:Type} [DecidableEq α]
theorem metL_cons (m:List α) (x:α) (xs:List α):metL m (x::xs)=metL (pushM m x) xs:=rfl
theorem metL_append (m xs ys:List α):metL m (xs++ys)=metL (metL m xs) ys:=by simp[metL]
theorem mem_pushM {l:List α}{x y:α}:y∈pushM l x↔y∈l∨y=x:=by
 unfold pushM
 split
 ·rename_i h;exact⟨.inl,fun q=>q.elim id (fun e=>e▸h)⟩
 ·simp
theorem mem_metL {m xs:List α}{y:α}:y∈metL m xs↔y∈m∨y∈xs:=by
 induction xs generalizing m with
 |nil=>simp[metL]
 |cons x xs ih=>rw[metL_cons,ih,mem_pushM];simp[or_assoc]
theorem metL_nodup {m:List α} (h:m.Nodup) (xs:List α):(metL m xs).Nodup:=by
 induction xs generalizing m with
 |nil=>exact h
 |cons x xs ih=>exact ih (pushM_nodup h x)
theorem pushM_pre (l:List α) (x:α):l <+: pushM l x:=by
 unfold pushM
 split
 ·exact List.prefix_refl _
 ·exact List.prefix_append _ _
theorem metL_pre (m xs:List α):m <+: metL m xs:=by
 induction xs generalizing m with
 |nil=>exact List.prefix_refl _
 |cons x xs ih=>exact(pushM_pre m x).trans (ih _)
theorem idx_pre {m m':List α} (h:m <+: m') {x:α} (hx:x∈m):m'.idxOf x=m.idxOf x:=by
 obtain⟨r,rfl⟩:=h
 simp[List.idxOf_append,hx]
theorem pushM_len (l:List α) (x:α):(pushM l x).length≤l.length+1:=by
 unfold pushM
 split<;>simp
theorem metL_len (m xs:List α):(metL m xs).length≤m.length+xs.length:=by
 induction xs generalizing m with
 |nil=>simp[metL]
 |cons x xs ih=>rw[metL_cons];have:=ih (pushM m x);have:=pushM_len m x;simp;omega
theorem metL_len_ge (m xs:List α):m.length≤(metL m xs).length:=(metL_pre m xs).length_le
theorem idx_metL_lt {m xs:List α}{x:α} (h:x∈xs):(metL m xs).idxOf x<(metL m xs).length:=List.idxOf_lt_length_of_mem (mem_metL.2 (.inr h))
theorem idx_push (m xs:List α) (x:α):(metL m (x::xs)).idxOf x=(pushM m x).idxOf x:=idx_pre (metL_pre _ _) (mem_pushM.2 (.inr rfl))
theorem idx_take {m xs:List α} (k:Nat) {x:α} (hx:x∈xs.take k):(metL m xs).idxOf x=(metL m (xs.take k)).idxOf x:=by
 conv=>lhs;rw[←List.take_append_drop k xs,metL_append]
 exact idx_pre (metL_pre _ _) (mem_metL.2 (.inr hx))
theorem metL_take_succ (m:List α) {xs:List α}{k:Nat} (h:k<xs.length):metL m (xs.take (k+1))=pushM (metL m (xs.take k)) xs[k]:=by
 rw[List.take_succ_eq_append_getElem h,metL_append];rfl
theorem idx_at (m:List α) {xs:List α}{k:Nat} (h:k<xs.length):(metL m xs).idxOf xs[k]=(pushM (metL m (xs.take k)) xs[k]).idxOf xs[k]:=by
 rw[←metL_take_succ m h]
 refine idx_take (k+1) ?_
 rw[List.take_succ_eq_append_getElem h]
 exact List.mem_append_right _ (List.mem_singleton.2 rfl)
theorem idx_new {m:List α}{x:α}:(pushM m x).idxOf x=m.length↔x ∉ m:=by
 constructor
 ·intro h hx
  have:=List.idxOf_lt_length_of_mem hx
  rw[pushM,if_pos hx] at h
  omega
 ·intro hx
  rw[pushM,if_neg hx];simp[List.idxOf_append,hx]
end
def stOf (s:W4) (b:Bool):Stt:=⟨s.x0,s.x1,s.x2,s.x3,b⟩
def Stt.w (s:Stt):W4:=⟨s.x0,s.x1,s.x2,s.x3⟩
def orAll (fs:List W4) (is:List Nat) (a:W4):W4:=is.foldl (fun a i=>a.or (fs.getD i W4.none)) a
structure Sr where
 fs:List W4
 whole:Pc
 front:Bool
def stepM (s:Sr) (q:Stt) (rd:W4):Stt:=
 if s.front then stOf (orAll s.fs (q.w.and rd).all W4.none) (!((q.w.and rd).and s.whole.last).isE)
 else stOf ((orAll s.fs (q.w.and rd).all W4.none).or s.whole.first) (!((q.w.and rd).and s.whole.last).isE||s.whole.empty)
def rdM (b:Nat):List (Nat→Bool)→Nat→W4→W4
 |[],_,a=>a
 |S::bs,i,a=>rdM b bs (i+1) (if S b then a.or (bit1 i) else a)
def rdsM (bs:List (Nat→Bool)):List W4:=(List.range 256).map fun b=>rdM b bs 0 W4.none
def stsM {α β:Type} [DecidableEq α] (step:α→β→α) (rs:List β) (limit:Nat):Nat→List α→Nat→List (List Nat)→Option (List α×List (List Nat))
 |0,_,_,_=>none
 |f+1,met,tk,rows=>match met[tk]? with
  |none=>some (met,rows)
  |some q=>if limit<(metL met (rs.map (step q))).length then none else stsM step rs limit f (metL met (rs.map (step q))) (tk+1) (rows++[(rs.map (step q)).map (metL met (rs.map (step q))).idxOf])
structure Tn where
 front:Bool
 back:Bool
 cls:List Nat
 acc:List Bool
 next:List (List Nat)
structure TnOk (n k:Nat) (t:Tn):Prop where
 n1:1≤n
 cl:t.cls.length=256
 ck:∀ c∈t.cls,c<k
 al:t.acc.length=n
 nl:t.next.length=n
 r:∀ r∈t.next,r.length=k∧∀ x∈r,x<n
structure StsInv (k:Nat) {α:Type} (met:List α) (tk:Nat) (rows:List (List Nat)):Prop where
 l:rows.length=tk
 t:tk≤met.length
 r:∀ r∈rows,r.length=k∧∀ x∈r,x<met.length
theorem stsM_ok {α β:Type} [DecidableEq α] {step:α→β→α}{rs:List β}{limit:Nat}:∀ {f:Nat}{met:List α}{tk:Nat}{rows:List (List Nat)}{met':List α}{rows':List (List Nat)},met.length≤limit→StsInv rs.length met tk rows→stsM step rs limit f met tk rows=some (met',rows')→met'.length≤limit∧rows'.length=met'.length∧StsInv rs.length met' met'.length rows'∧met <+: met'
 |0,met,tk,rows,met',rows',_,h,e=>by simp[stsM] at e
 |f+1,met,tk,rows,met',rows',hm,h,e=>by
  simp only[stsM] at e
  split at e
  ·rename_i hn
   simp at e
   obtain⟨rfl,rfl⟩:=e
   have h1:=List.getElem?_eq_none_iff.1 hn
   have h2:=h.t
   have h3:=h.l
   have:tk=met.length:=by omega
   subst this
   exact⟨hm,h.l,h,List.prefix_refl _⟩
  ·rename_i q hq
   split at e
   ·simp at e
   ·rename_i hl
    have hp:=metL_pre met (rs.map (step q))
    have hpl:=hp.length_le
    have htk:=(List.getElem?_eq_some_iff.1 hq).1
    have:=stsM_ok (by omega) (tk:=tk+1) ⟨by simp[h.l],by omega,fun r hr=>?_⟩ e
    ·exact⟨this.1,this.2.1,this.2.2.1,hp.trans this.2.2.2⟩
    ·simp at hr
     rcases hr with hr|rfl
     ·exact⟨(h.r r hr).1,fun x hx=>Nat.lt_of_lt_of_le ((h.r r hr).2 x hx) hpl⟩
     ·refine⟨by simp,fun x hx=>?_⟩
      simp only[List.mem_map] at hx
      obtain⟨y,hy,rfl⟩:=hx
      exact idx_metL_lt (List.mem_map.2 ⟨y,hy,rfl⟩)
def searchM (p:Sx.Ptn) (limit:Nat):Option Tn:=
 if 64<spCs p.choices then none else
 match stsM (stepM ⟨(exCs p.choices pc0 ⟨[],[]⟩).2.fs,(exCs p.choices pc0 ⟨[],[]⟩).1,p.front⟩) (metL [] (rdsM (exCs p.choices pc0 ⟨[],[]⟩).2.bs)) limit 202 [stOf (exCs p.choices pc0 ⟨[],[]⟩).1.first (exCs p.choices pc0 ⟨[],[]⟩).1.empty] 0 [] with
 |none=>none
 |some x=>some ⟨p.front,p.back,(rdsM (exCs p.choices pc0 ⟨[],[]⟩).2.bs).map (metL [] (rdsM (exCs p.choices pc0 ⟨[],[]⟩).2.bs)).idxOf,x.1.map (·.ends),x.2⟩
open Sx (Prt Cnt)
def ixL {α:Type} [DecidableEq α] (l:List α) (x:α):Nat:=l.idxOf x
theorem ixL_lt {α:Type} [DecidableEq α] {l:List α}{x:α} (h:x∈l):ixL l x<l.length:=List.idxOf_lt_length_of_mem h
def bkOf (acc:List Bool):List UInt8:=acc.map fun b=>if b then 1 else 0
def lookM (bl:List UInt8) (i:Nat) (row:List Nat):List UInt8:=bl.getD i 0::row.map fun x=>bl.getD x 0
def looksM (bl:List UInt8) (next:List (List Nat)):List (List UInt8):=next.mapIdx (lookM bl)
def splitM (next:List (List Nat)):Nat→List UInt8→Nat→List UInt8
 |0,bl,_=>bl
 |f+1,bl,many=>if many<(metL [] (looksM bl next)).length then splitM next f ((looksM bl next).map fun l=>UInt8.ofNat (ixL (metL [] (looksM bl next)) l)) (metL [] (looksM bl next)).length else bl
def colM (bl:List UInt8) (next:List (List Nat)) (c:Nat):List UInt8:=next.map fun row=>bl.getD (row.getD c 0) 0
def blM (t:Tn):List UInt8:=splitM t.next 202 (bkOf t.acc) 0
def colsM (t:Tn) (bl:List UInt8):List (List UInt8):=t.cls.map (colM bl t.next)
def oldsM (cls:List Nat) (cols:List (List UInt8)):List Nat:=(metL [] cols).map fun col=>cls.getD (ixL cols col) 0
def leadM (t:Tn) (bl:List UInt8) (b:UInt8) (old:Nat):UInt8:=bl.getD ((t.next.getD (bl.idxOf b) []).getD old 0) 0
def leastB (t:Tn) (bl:List UInt8):Option (List UInt8×List (List Nat)):=stsM (leadM t bl) (oldsM t.cls (colsM t bl)) 256 258 [bl.getD 0 0] 0 []
def leastM (t:Tn):Tn:=match leastB t (blM t) with
 |none=>t
 |some x=>⟨t.front,t.back,(colsM t (blM t)).map (ixL (metL [] (colsM t (blM t)))),x.1.map fun b=>t.acc.getD ((blM t).idxOf b) false,x.2⟩
theorem nodup_len:∀(n:Nat) (l:List Nat),l.Nodup→(∀ x∈l,x<n)→l.length≤n
 |0,l,_,h=>by
  match l,h with
  |[],_=>simp
  |a::l,h=>exact absurd (h a (by simp)) (by omega)
 |n+1,l,hd,h=>by
  have h1:=nodup_len n (l.erase n) (hd.erase n) (fun x hx=>by
   have h2:=h x (List.mem_of_mem_erase hx)
   have h3:x≠n:=fun e=>by subst e;exact(hd.mem_erase_iff.1 hx).1 rfl
   omega)
  rw[List.length_erase] at h1
  split at h1<;>omega
theorem nodup_u8 {l:List UInt8} (h:l.Nodup):l.length≤256:=by
 have:=nodup_len 256 (l.map UInt8.toNat) (List.pairwise_map.2 (h.imp fun hab e=>hab (UInt8.toNat_inj.1 e))) (fun x hx=>by
  simp only[List.mem_map] at hx
  obtain⟨y,_,rfl⟩:=hx
  exact y.toNat_lt)
 simpa using this
theorem stsM_some {α β:Type} [DecidableEq α] {step:α→β→α}{rs:List β}{limit:Nat} (hb:∀ l:List α,l.Nodup→l.length≤limit):∀(f:Nat) (met:List α) (tk:Nat) (rows:List (List Nat)),met.Nodup→tk≤met.length→limit<f+tk→∃ x,stsM step rs limit f met tk rows=some x
 |0,met,tk,rows,hd,h1,h2=>by have:=hb met hd;omega
 |f+1,met,tk,rows,hd,h1,h2=>by
  simp only[stsM]
  split
  ·exact⟨_,rfl⟩
  ·rename_i q hq
   have hd':=metL_nodup hd (rs.map (step q))
   have:=hb _ hd'
   rw[if_neg (by omega)]
   have htk:=(List.getElem?_eq_some_iff.1 hq).1
   have:=metL_len_ge met (rs.map (step q))
   exact stsM_some hb f _ (tk+1) _ hd' (by omega) (by omega)
theorem stsM_nodup {α β:Type} [DecidableEq α] {step:α→β→α}{rs:List β}{limit:Nat}:∀ {f:Nat}{met:List α}{tk:Nat}{rows:List (List Nat)}{x:List α×List (List Nat)},met.Nodup→stsM step rs limit f met tk rows=some x→x.1.Nodup
 |0,met,tk,rows,x,_,e=>by simp[stsM] at e
 |f+1,met,tk,rows,x,hd,e=>by
  simp only[stsM] at e
  split at e
  ·simp at e;subst e;exact hd
  ·split at e
   ·simp at e
   ·exact stsM_nodup (metL_nodup hd _) e
theorem stsM_all {α β:Type} [DecidableEq α] {step:α→β→α}{rs:List β}{limit:Nat} (P:α→Prop) (hP:∀ q r,P q→r∈rs→P (step q r)):∀ {f:Nat}{met:List α}{tk:Nat}{rows:List (List Nat)}{x:List α×List (List Nat)},(∀ q∈met,P q)→stsM step rs limit f met tk rows=some x→∀ q∈x.1,P q
 |0,met,tk,rows,x,_,e=>by simp[stsM] at e
 |f+1,met,tk,rows,x,hd,e=>by
  simp only[stsM] at e
  split at e
  ·simp at e;subst e;exact hd
  ·rename_i q hq
   split at e
   ·simp at e
   ·refine stsM_all P hP (fun y hy=>?_) e
    rcases mem_metL.1 hy with hy|hy
    ·exact hd y hy
    ·obtain⟨r,hr,rfl⟩:=List.mem_map.1 hy
     exact hP q r (hd q (List.mem_of_getElem? hq)) hr
theorem splitM_len (next:List (List Nat)):∀(f:Nat) (bl:List UInt8) (many:Nat),bl.length=next.length→(splitM next f bl many).length=next.length
 |0,bl,many,h=>h
 |f+1,bl,many,h=>by
  simp only[splitM]
  split
  ·exact splitM_len next f _ _ (by simp[looksM])
  ·exact h
theorem leastB_some (t:Tn) (bl:List UInt8):∃ x,leastB t bl=some x:=stsM_some (fun l h=>nodup_u8 h) 258 _ 0 [] (by simp) (by simp) (by omega)
theorem leastM_ok {n k:Nat}{t:Tn} (h:TnOk n k t):∃ n' k',n'≤n∧TnOk n' k' (leastM t):=by
 obtain⟨x,hx⟩:=leastB_some t (blM t)
 have hbl:(blM t).length=n:=(splitM_len _ _ _ _ (by simp[bkOf,h.al,h.nl])).trans h.nl
 have hn:=h.n1
 unfold leastM
 rw[hx]
 unfold leastB at hx
 obtain⟨h1,h2,h3,h4⟩:=stsM_ok (α:=UInt8) (show[_].length≤256 by simp) (show StsInv _ [_] 0 [] from⟨rfl,Nat.zero_le _,fun r hr=>absurd hr (by simp)⟩) hx
 have hnd:=stsM_nodup (by simp) hx
 have hall:∀ q∈x.1,q∈blM t:=by
  refine stsM_all (·∈blM t) (fun q r hq hr=>?_) (fun q hq=>?_) hx
  ·have hi:=List.idxOf_lt_length_of_mem hq
   unfold leadM
   rw[hbl] at hi
   have hi':(blM t).idxOf q<t.next.length:=by rw[h.nl];exact hi
   have hrow:=h.r _ (List.getElem_mem hi')
   rw[List.getD_eq_getElem?_getD (l:=t.next),List.getElem?_eq_getElem hi',Option.getD_some]
   have hr':r<k:=by
    unfold oldsM at hr
    simp only[List.mem_map] at hr
    obtain⟨col,hc,rfl⟩:=hr
    have hc':col∈colsM t (blM t):=by simpa using mem_metL.1 hc
    have hl:ixL (colsM t (blM t)) col<(colsM t (blM t)).length:=ixL_lt hc'
    have hl':ixL (colsM t (blM t)) col<t.cls.length:=by simpa [colsM] using hl
    rw[List.getD_eq_getElem?_getD,List.getElem?_eq_getElem hl',Option.getD_some]
    exact h.ck _ (List.getElem_mem hl')
   have hr2:r<(t.next[(blM t).idxOf q]).length:=by rw[hrow.1];exact hr'
   rw[List.getD_eq_getElem?_getD (l:=t.next[_]),List.getElem?_eq_getElem hr2,Option.getD_some]
   have h5:=hrow.2 _ (List.getElem_mem hr2)
   rw[List.getD_eq_getElem?_getD,List.getElem?_eq_getElem (by omega),Option.getD_some]
   exact List.getElem_mem _
  ·simp at hq
   subst hq
   rw[←List.getD_eq_getElem?_getD,List.getD_eq_getElem?_getD,List.getElem?_eq_getElem (by omega),Option.getD_some]
   exact List.getElem_mem _
 have hlen:x.1.length≤n:=by
  have:=nodup_len n (x.1.map (blM t).idxOf) (List.pairwise_map.2 (List.Pairwise.imp_of_mem (fun {a b} ha hb hab e=>hab (by
   have h5:=List.idxOf_lt_length_of_mem (hall a ha)
   have h6:=List.idxOf_lt_length_of_mem (hall b hb)
   rw[←List.getElem_idxOf h5,←List.getElem_idxOf h6]
   simp only[e])) hnd)) (fun y hy=>by
   simp only[List.mem_map] at hy
   obtain⟨z,hz,rfl⟩:=hy
   rw[←hbl];exact List.idxOf_lt_length_of_mem (hall z hz))
  simpa using this
 have h5:=h4.length_le
 simp at h5
 refine⟨x.1.length,(oldsM t.cls (colsM t (blM t))).length,hlen,⟨by omega,by simp[colsM,h.cl],fun c hc=>?_,by simp,h2,h3.r⟩⟩
 simp only[List.mem_map] at hc
 obtain⟨y,hy,rfl⟩:=hc
 simpa [oldsM,ixL] using idx_metL_lt (m:=[]) hy
def tbOf (t:Tn):Tb:=⟨t.front,t.back,0,t.cls.map UInt8.ofNat,t.acc,t.next.map fun r=>r.map Int.ofNat⟩
theorem cntC_met {α:Type} [DecidableEq α]:∀(xs m:List α),(metL m xs).length≤256→cntC m.length ((xs.map (metL m xs).idxOf).map UInt8.ofNat)=some (metL m xs).length
 |[],m,_=>by simp[cntC,metL]
 |x::xs,m,h=>by
  have ih:=cntC_met xs (pushM m x) h
  have hp:=(metL_pre (pushM m x) xs).length_le
  have hlt:(pushM m x).idxOf x<(pushM m x).length:=List.idxOf_lt_length_of_mem (mem_pushM.2 (.inr rfl))
  rw[List.map_cons,List.map_cons,cntC,idx_push]
  have hu:(UInt8.ofNat ((pushM m x).idxOf x)).toNat=(pushM m x).idxOf x:=by
   rw[UInt8.toNat_ofNat']
   exact Nat.mod_eq_of_lt (by rw[metL_cons] at h;omega)
  rw[hu]
  have e:max m.length ((pushM m x).idxOf x+1)=(pushM m x).length:=by
   by_cases hx:x∈m
   ·have:=List.idxOf_lt_length_of_mem hx
    rw[pushM,if_pos hx] at hlt ⊢
    omega
   ·have:=idx_new.2 hx
    rw[this,pushM,if_neg hx];simp
  have e2:¬ m.length<(pushM m x).idxOf x:=by
   have:=pushM_len m x
   omega
  rw[if_neg e2,e]
  exact ih
theorem leastM_tb {n k:Nat}{t:Tn} (h:TnOk n k t) (hn:n≤200):isTb (tbOf (leastM t))=true:=by
 obtain⟨n',k',h1,h2⟩:=leastM_ok h
 obtain⟨x,hx⟩:=leastB_some t (blM t)
 have hcl:(leastM t).cls=(colsM t (blM t)).map (ixL (metL [] (colsM t (blM t)))):=by unfold leastM;rw[hx]
 have hk:(metL [] (colsM t (blM t))).length≤256:=by
  have:=metL_len [] (colsM t (blM t))
  simpa [colsM,h.cl] using this
 have hc:=cntC_met (colsM t (blM t)) [] hk
 have hlen:(metL [] (colsM t (blM t))).length=k':=by
  have:=h2.n1
  have h3:=h2.nl
  have h4:=h2.r
  have e:∀ r∈(leastM t).next,r.length=(metL [] (colsM t (blM t))).length:=by
   intro r hr
   unfold leastB at hx
   obtain⟨g1,g2,g3,g4⟩:=stsM_ok (α:=UInt8) (show[_].length≤256 by simp) (show StsInv _ [_] 0 [] from⟨rfl,Nat.zero_le _,fun r hr=>absurd hr (by simp)⟩) hx
   have:r∈x.2:=by
    have hq:(leastM t).next=x.2:=by unfold leastM leastB;rw[hx]
    rw[hq] at hr;exact hr
   rw[(g3.r r this).1]
   simp[oldsM]
  have hne:0<(leastM t).next.length:=by omega
  rw[←e _ (List.getElem_mem hne),(h4 _ (List.getElem_mem hne)).1]
 have hal:=h2.al
 have hnl:=h2.nl
 have hn1:=h2.n1
 unfold isTb
 have ec:cntR (ba (tbOf (leastM t)).cls)=some k':=by
  unfold cntR
  rw[if_pos (by rw[ba_size];simp[tbOf,h2.cl])]
  show cntC 0 (tbOf (leastM t)).cls=_
  have:(tbOf (leastM t)).cls=((colsM t (blM t)).map (ixL (metL [] (colsM t (blM t))))).map UInt8.ofNat:=by simp only[tbOf,hcl]
  rw[this,←hlen]
  exact hc
 rw[ec]
 simp only[Bool.and_eq_true,decide_eq_true_eq,List.all_eq_true]
 refine⟨by simp only[tbOf];omega,by simp only[tbOf];omega,by simp only[tbOf,List.length_map];omega,by simp[tbOf,isSt];omega,?_⟩
 intro r hr
 simp only[tbOf,List.mem_map] at hr
 obtain⟨q,hq,rfl⟩:=hr
 have:=h2.r q hq
 simp only[rowOk,Bool.and_eq_true,beq_iff_eq,List.length_map,List.all_eq_true]
 refine⟨this.1,fun z hz=>?_⟩
 simp only[List.mem_map] at hz
 obtain⟨y,hy,rfl⟩:=hz
 have:=this.2 y hy
 simp[isSt,tbOf]
 omega
open Go.RowKit
def W4.cs (s:W4):List Value:=[.int .u64 (s.x0:Int),.int .u64 (s.x1:Int),.int .u64 (s.x2:Int),.int .u64 (s.x3:Int)]
theorem flatF_get {α:Type}{f:α→List Value}{s:Nat} (h:∀ x,(f x).length=s):∀ {l:List α}{i:Nat}{x:α},l[i]?=some x→∀ j,j<s→(l.flatMap f)[i*s+j]?=(f x)[j]?:=by
 intro l
 induction l with
 |nil=>intro i x hx;simp at hx
 |cons a l ih=>
  intro i x hx j hj
  have ha:=h a
  cases i with
  |zero=>
   simp at hx;subst hx
   rw[List.flatMap_cons,List.getElem?_append_left (by omega)]
   simp
  |succ i=>
   simp at hx
   have:=ih hx j hj
   rw[List.flatMap_cons,List.getElem?_append_right (by simp[ha,Nat.add_mul];omega),←this]
   congr 1
   simp[ha,Nat.add_mul]
   omega
theorem flatF_len {α:Type}{f:α→List Value}{s:Nat} (h:∀ x,(f x).length=s) (l:List α):(l.flatMap f).length=l.length*s:=by
 induction l with
 |nil=>simp
 |cons a l ih=>simp only[List.flatMap_cons,List.length_append,h,ih,List.length_cons,Nat.add_mul];omega
theorem W4.cs_len (s:W4):s.cs.length=4:=rfl
def FsAt (te:TypeId) (w:World) (base:Nat) (v:Value) (fs:List W4):Prop:=w.ownsRow base te 4 v fs.length (fs.flatMap W4.cs)
theorem FsAt.at {te:TypeId}{w:World}{base:Nat}{v:Value}{fs:List W4} (h:FsAt te w base v fs) {i:Nat} (hi:i<fs.length) :
  ∃ g cap,v=.slice (some ⟨g,0,none⟩) fs.length cap∧base≤g∧W4At w g (i*4) fs[i]:=by
 have h0:=h
 unfold FsAt at h0
 rcases h.2 with⟨_,hn⟩|⟨g,cap,cur,rfl,hb,hg,_⟩
 ·omega
 ·have key:∀ j,j<4→w.cell? ⟨g,i*4+j,none⟩=fs[i].cs[j]?:=fun j hj=>by
   rw[h0.cellAt _ (by omega)]
   exact flatF_get W4.cs_len (List.getElem?_eq_getElem hi) j hj
  exact⟨g,cap,rfl,hb,key 0 (by omega),key 1 (by omega),key 2 (by omega),key 3 (by omega),fun o=>by simp[World.frozen?,hg]⟩
theorem FsAt.blk {te:TypeId}{w w':World}{base:Nat}{v:Value}{fs:List W4} (h:FsAt te w base v fs) (hb:∀ b,v.ownBlock=some b→w'.heap[b]?=w.heap[b]?):FsAt te w' base v fs:=own_blk h hb
theorem FsAt.lt {te:TypeId}{w:World}{base:Nat}{v:Value}{fs:List W4} (h:FsAt te w base v fs) {b:Nat} (hb:v.ownBlock=some b):base≤b∧b<w.heap.size:=by
 refine⟨?_,own_lt h hb⟩
 rcases h.2 with⟨rfl,_⟩|⟨g,cap,cur,rfl,hb',_⟩
 ·simp[Value.ownBlock] at hb
 ·simp[Value.ownBlock] at hb;omega
theorem FsAt.mod {te:TypeId}{w w':World}{base g cap:Nat}{fs:List W4}{i:Nat}{x:W4} (h:FsAt te w base (.slice (some ⟨g,0,none⟩) fs.length cap) fs) (hi:i<fs.length) (hf:Fo g (i*4) w w') (hx:W4At w' g (i*4) x) :
  FsAt te w' base (.slice (some ⟨g,0,none⟩) fs.length cap) (fs.set i x):=by
 have h0:=h
 unfold FsAt at h0
 rcases h.2 with⟨hv,_⟩|⟨g',cap',cur,hv,hb,hg,hc1,hc2,hc3,hc4⟩
 ·simp at hv
 ·simp only[Value.slice.injEq,Option.some.injEq,Addr.mk.injEq,and_true,true_and] at hv
  obtain⟨rfl,rfl⟩:=hv
  obtain⟨cs',e1,e2⟩:=hf.shp cur te (0,0) hg
  unfold FsAt
  refine⟨by rw[flatF_len W4.cs_len],.inr ⟨g,cap,cs',by simp,hb,e1,by simpa using hc1,hc2,by omega,?_⟩⟩
  refine List.ext_getElem? (fun m=>?_)
  by_cases hm:m<(fs.set i x).length*4
  ·have hm':m<fs.length*4:=by simpa using hm
   have hcell:(cs'.toList.take ((fs.set i x).length*4))[m]?=w'.cell? ⟨g,m,none⟩:=by
    rw[List.getElem?_take_of_lt hm];simp[World.cell?,e1]
   rw[hcell]
   have hq:m / 4<fs.length:=by omega
   have hme:m=m / 4*4+m%4:=by omega
   have hr:m%4<4:=Nat.mod_lt _ (by omega)
   have hget:(fs.set i x)[m / 4]?=some (if i=m / 4 then x else fs[m / 4]):=by
    rw[List.getElem?_set]
    by_cases e:i=m / 4
    ·subst e;simp[hq]
    ·simp[e,hq]
   have hflat:=flatF_get W4.cs_len hget (m%4) hr
   rw[←hme] at hflat
   rw[hflat]
   by_cases e:i=m / 4
   ·rw[if_pos e]
    have hmi:m=i*4+m%4:=by omega
    generalize m%4=r at hmi hr
    subst hmi
    match r,hr with
    |0,_=>exact hx.c0
    |1,_=>exact hx.c1
    |2,_=>exact hx.c2
    |3,_=>exact hx.c3
   ·rw[if_neg e,hf.four.cell m (by omega),h0.cellAt m hm',←flatF_get W4.cs_len (List.getElem?_eq_getElem hq) (m%4) hr,←hme]
  ·have hls:(fs.set i x).length=fs.length:=List.length_set
   rw[List.getElem?_eq_none (by simp;omega),List.getElem?_eq_none (by rw[flatF_len W4.cs_len];omega)]
theorem Fo.exc {b off:Nat}{w w':World} (h:Fo b off w w'):Exc (fun k=>k=b) w w':=⟨h.four.os,h.four.tape,h.four.output,h.four.size,h.four.block⟩
theorem Fo.others {b off:Nat}{w w':World} (h:Fo b off w w') {x:Value} (hc:w.cell? ⟨b,off,none⟩=some x):KeepsOthers w w':=
 ⟨h.four.size,fun k o hk ho=>by
  have hk':=(Array.getElem?_eq_some_iff.1 hk).1
  by_cases e:k=b
  ·subst e
   obtain⟨o',h1,h2⟩:=cells_of_cell hc
   rw[h1] at hk;simp at hk;subst hk
   rw[h2] at ho;cases ho
  ·exact(h.four.block k hk' e).trans hk⟩
theorem modify_set (l:List W4) (i:Nat) (h:i<l.length) (f:W4→W4):l.modify i f=l.set i (f l[i]):=by
 refine List.ext_getElem? (fun m=>?_)
 rw[List.getElem?_modify,List.getElem?_set]
 by_cases e:i=m
 ·subst e;simp[h]
 ·simp[e]
def foL (fs:List W4) (is:List Nat) (f:W4):List W4:=is.foldl (fun fs i=>fs.modify i (·.or f)) fs
theorem foL_len (fs:List W4) (is:List Nat) (f:W4):(foL fs is f).length=fs.length:=by
 unfold foL
 induction is generalizing fs with
 |nil=>rfl
 |cons i is ih=>simp only[List.foldl_cons];rw[ih];simp
theorem foL_snoc (fs:List W4) (is:List Nat) (i:Nat) (f:W4):foL fs (is++[i]) f=(foL fs is f).modify i (·.or f):=by simp[foL]
theorem foL_ok {fs:List W4}{f:W4} (is:List Nat) (h:∀ x∈fs,x.ok) (hf:f.ok):∀ x∈foL fs is f,x.ok:=by
 unfold foL
 induction is generalizing fs with
 |nil=>exact h
 |cons i is ih=>
  simp only[List.foldl_cons]
  refine ih (fun x hx=>?_)
  rcases mem_modify hx with hx|⟨y,hy,rfl⟩
  ·exact h x hx
  ·exact W4.or_ok (h y hy) hf
theorem RowE.at {α:Type}{enc:α→Value}{w:World}{v:Value}{l:List α} (h:RowE enc w v l) {i:Nat} (hi:i<l.length):∃ b o c,v=.slice (some ⟨b,o,none⟩) l.length c∧w.cell? ⟨b,o+i,none⟩=some (enc l[i]):=by
 obtain⟨b,o,c,e,h1⟩:=h.nonnil (by omega)
 exact⟨b,o,c,e,h1 i hi⟩
def acF (acc:List Bool) (k j:Nat):Value:=if j<k then byV ((bkOf acc)[j]?.getD 0) else .int .u8 0
theorem bk_len (acc:List Bool):(bkOf acc).length=acc.length:=by simp[bkOf]
theorem accepting_any (w:World) (t:Tb) (va vn:Value) (h:RowE eB w va t.acc) (hl:t.acc.length≤200) :
  Calls Tryz.prog 137 #[tv t va vn] w fun e w'=>∃ v,e=.returned v∧RowE byV w' v (bkOf t.acc)∧Below w.heap.size w w':=by
 obtain⟨f,b,st,cls,acc,next⟩:=t
 simp only at h hl ⊢
 obtain⟨aa,ca,rfl⟩:=h.form
 obtain⟨iU,hiU,hzU,hz1U,hz2U⟩:=info_parts Tryz.infoU8
 have HR:Hid (RowE eB w (.slice aa acc.length ca) acc):=h
 obtain⟨N,hN⟩:∃ N,N=acc.length:=⟨_,rfl⟩
 have HN:Hid (N=acc.length):=hN
 rw[←hN] at hl ⊢
 have hmk:=fun w0=>make_eq Tryz.underlying73 hiU hzU hz1U hz2U N (by omega) (by unfold maxLen;omega) w0
 clear h hN
 go_enter Tryz.func137,Tryz.ntmps137
 go_wp2
 obtain⟨w2,hw2⟩:∃ w2,w2=(w.alloc (.cells #[.bool f,.bool b,.int .i64 st,.string (ba cls),.slice aa N ca,vn] 33)).alloc (.cells (mkA N (.int .u8 0)) 5):=⟨_,rfl⟩
 rw[←hw2]
 have hb2:Below w.heap.size w w2:=by rw[hw2];exact((Below.refl _ _).alloc (Nat.le_refl _) _).alloc (by simp) _
 have hn2:Nw w2 (w.heap.size+1) N (acF acc 0):=by
  rw[hw2]
  have:=Nw.new (w.alloc (.cells #[.bool f,.bool b,.int .i64 st,.string (ba cls),.slice aa N ca,vn] 33)) N (.int .u8 0) rfl 5
  simp only[World.size_alloc] at this
  exact this.congr (fun j hj=>by simp[acF])
 have HI:Hid (Below w.heap.size w w2∧Nw w2 (w.heap.size+1) N (acF acc 0)):=⟨hb2,hn2⟩
 clear hw2 hb2 hn2 hmk
 go_loopw [13] (fun i wr=>∃ k:Nat,k≤N∧i=.int .i64 k∧Below w.heap.size w wr∧Nw wr (w.heap.size+1) N (acF acc k)) (fun i _=>N-(intOf i).toNat)
 case atStart=>exact⟨0,by omega,rfl,HI.out.1,HI.out.2⟩
 case round=>
  obtain⟨k,hk,rfl,hb,hn⟩:=hrel
  have HB:Hid (Below w.heap.size w wr):=hb
  have HNW:Hid (Nw wr (w.heap.size+1) N (acF acc k)):=hn
  by_cases hlt:k<N
  ·have hltI:(k:Int)<N:=by omega
   have hka:k<acc.length:=by have:=HN.out;omega
   obtain⟨g,o,c,e1,hcell⟩:=(HR.out.below hb).at (i:=k) hka
   simp only[Value.slice.injEq] at e1
   obtain⟨rfl,-,rfl⟩:=e1
   have ac:=hn.c k hlt
   have af:=hn.fz
   have HF:Hid (∀ j,j<N→(if j=k then byV ((bkOf acc)[k]?.getD 0) else acF acc k j)=acF acc (k+1) j):=fun j hj=>by
    unfold acF
    by_cases e:j=k
    ·subst e;rw[if_pos rfl,if_pos (by omega)]
    ·rw[if_neg e]
     by_cases e2:j<k
     ·rw[if_pos e2,if_pos (by omega)]
     ·rw[if_neg e2,if_neg (by omega)]
   have HV:Hid ((bkOf acc)[k]?.getD 0=if acc[k] then 1 else 0):=by
    show _=_
    simp[bkOf,hka]
   obtain⟨x,hx⟩:∃ x,x=acc[k]:=⟨_,rfl⟩
   rw[←hx] at hcell HV
   clear hb hn hx
   cases x with
   |true=>
    go_wp2
    go_roundw
    case rel=>
     refine⟨k+1,by omega,by go_num,HB.out.setCell (p:=⟨w.heap.size+1,k,none⟩) (show w.heap.size≤w.heap.size+1 by omega) _,?_⟩
     have:=(HNW.out.set k hlt (byV ((bkOf acc)[k]?.getD 0))).congr HF.out
     rw[HV.out] at this
     exact this
    case measure=>simp[intOf]<;>omega
   |false=>
    go_wp2
    go_roundw
    case rel=>
     refine⟨k+1,by omega,by go_num,HB.out,HNW.out.congr (fun j hj=>?_)⟩
     rw[←HF.out j hj]
     by_cases e:j=k
     ·subst e
      rw[if_pos rfl,HV.out]
      unfold acF
      rw[if_neg (by omega)]
      rfl
     ·rw[if_neg e]
    case measure=>simp[intOf]<;>omega
  ·have hkI:¬(k:Int)<N:=by omega
   have hkN:k=N:=by omega
   clear hb hn
   go_wp2
   go_ret
   refine⟨_,rfl,?_,HB.out⟩
   subst hkN
   have hbl:(bkOf acc).length=k:=by rw[bk_len];exact HN.out.symm
   have:=Nw.row (l:=bkOf acc) (enc:=byV) (c:=k) (f:=acF acc k) (by rw[hbl];exact HNW.out) (fun j hj=>by
    unfold acF
    rw[if_pos (by omega),List.getElem?_eq_getElem hj];rfl)
   rw[hbl] at this
   exact this
theorem uB:Tryz.prog.underlying 5=some (.int .u8):=by kernel_rfl
theorem uS:Tryz.prog.underlying 9=some .string:=by kernel_rfl
theorem row_conv {w:World}{base:Nat}{v:Value}{l:List UInt8} (h:w.ownsRow base 5 1 v l.length (l.map byV)) (hl:0<l.length):∃ g cap,v=.slice (some ⟨g,0,none⟩) l.length cap∧(convert 73 9 (.slice (some ⟨g,0,none⟩) l.length cap)).run Tryz.prog w=.ok (.string (ba l)) w:=by
 rcases h.2 with⟨_,hn⟩|⟨g,cap,cur,rfl,_⟩
 ·omega
 ·refine⟨g,cap,rfl,?_⟩
  exact run_convert_bytes_back (P:=Tryz.prog) w 73 9 5 ⟨g,0,none⟩ cap l Tryz.underlying73 uB uS (by
   intro j hj
   have e:(⟨g,0,none⟩:Addr).add j=⟨g,j,none⟩:=by unfold Addr.add;split<;>simp_all
   rw[e,h.cellAt j (by omega)]
   simp[hj,byV])
theorem own_ge' {w:World}{base:Nat}{e:TypeId}{size:Nat}{v:Value}{n g:Nat}{xs:List Value} (h:w.ownsRow base e size v n xs) (hg:v.ownBlock=some g):base≤g:=by
 rcases h.2 with⟨rfl,_⟩|⟨g',cap,cur,rfl,hb,_⟩
 ·simp[Value.ownBlock] at hg
 ·simp[Value.ownBlock] at hg;omega
theorem grown_blk' {wa w4:World}{v:Value}{g H:Nat} (hH:wa.heap.size=H) (h:(v.ownBlock=some g∧wa.grownBy w4 (some g))∨(g=H∧wa.grownBy w4 none)) {b:Nat} (hb:b<wa.heap.size) (hn:v.ownBlock≠some b):w4.heap[b]?=wa.heap[b]?:=by
 rcases h with⟨h1,h2⟩|⟨h1,h2⟩
 ·exact h2.block b hb (by rw[←h1];exact fun e=>hn e.symm)
 ·exact h2.block b hb (by simp)
theorem grown_env' {wa w4:World}{v:Value}{g H:Nat} (h:(v.ownBlock=some g∧wa.grownBy w4 (some g))∨(g=H∧wa.grownBy w4 none)):w4.os=wa.os∧w4.tape=wa.tape∧w4.output=wa.output∧wa.heap.size≤w4.heap.size:=by
 rcases h with⟨h1,h2⟩|⟨h1,h2⟩
 ·exact⟨h2.os,h2.tape,h2.output,h2.size⟩
 ·exact⟨h2.os,h2.tape,h2.output,h2.size⟩
theorem look_len (bl:List UInt8) (i:Nat) (row:List Nat):(lookM bl i row).length=row.length+1:=by simp[lookM]
theorem own_form {w:World}{base:Nat}{e:TypeId}{size:Nat}{v:Value}{n:Nat}{xs:List Value} (h:w.ownsRow base e size v n xs):∃ a c,v=.slice a n c:=by
 rcases h.2 with⟨rfl,hn⟩|⟨g,cap,cur,rfl,_⟩
 ·exact⟨none,0,by rw[hn]⟩
 ·exact⟨_,_,rfl⟩
theorem look_any (w:World) (bl:List UInt8) (vb:Value) (h:RowE byV w vb bl) (i:Nat) (hi:i<bl.length) (row:List Nat) (vr:Value) (hr:RowE eI w vr (row.map Int.ofNat)) (hrow:∀ x∈row,x<bl.length) (hl:row.length≤256) (hbl:bl.length≤200) :
  Calls Tryz.prog 140 #[vb,.int .i64 i,vr] w fun e w'=>e=.returned (.string (ba (lookM bl i row)))∧Below w.heap.size w w':=by
 have HB:Hid (RowE byV w vb bl):=h
 have HR:Hid (RowE eI w vr (row.map Int.ofNat)):=hr
 obtain⟨g,o,c,rfl,hcell⟩:=h.at hi
 obtain⟨ra,rc,rfl⟩:=hr.form
 obtain⟨iU,hiU,hzU,hz1U,hz2U⟩:=info_parts Tryz.infoU8
 have hlen:(row.map Int.ofNat).length=row.length:=by simp
 rw[hlen] at HR
 rw[hlen]
 obtain⟨N,hN⟩:∃ N,N=row.length:=⟨_,rfl⟩
 have HN:Hid (N=row.length):=hN
 obtain⟨B,hB⟩:∃ B,B=bl.length:=⟨_,rfl⟩
 have HBL:Hid (B=bl.length):=hB
 rw[←hN] at hl HR ⊢
 rw[←hB] at hi hbl HB ⊢
 have hiI:(i:Int)<B:=by omega
 obtain⟨x0,hx0⟩:∃ x0,x0=bl[i]'(by omega):=⟨_,rfl⟩
 rw[←hx0] at hcell
 simp only[byV] at hcell
 have HX0:Hid ((lookM bl i row).take 1=[x0]):=by
  show _=_
  simp[lookM,hx0,List.getD_eq_getElem?_getD,show i<bl.length by omega]
 have HLK:Hid (∀ k (hk:k<row.length),(lookM bl i row).take (k+1+1)=(lookM bl i row).take (k+1)++[bl.getD row[k] 0]):=fun k hk=>by
  rw[List.take_succ_eq_append_getElem (by rw[look_len];omega)]
  simp[lookM]
 have HLL:=look_len bl i row
 obtain⟨LK,hLK⟩:∃ LK,LK=lookM bl i row:=⟨_,rfl⟩
 rw[←hLK] at HX0 HLK HLL ⊢
 clear h hr hlen hN hB hx0 hLK
 go_enter Tryz.func140,Tryz.ntmps140
 go_wp2
 obtain⟨w2,hw2⟩:∃ w2,w2=w.alloc (.cells #[.int .u8 x0.toNat] 5):=⟨_,rfl⟩
 rw[←hw2]
 have hb2:Below w.heap.size w w2:=by rw[hw2];exact(Below.refl _ _).alloc (Nat.le_refl _) _
 have ho2:w2.ownsRow w.heap.size 5 1 (.slice (some ⟨w.heap.size,0,none⟩) 1 1) 1 ((LK.take 1).map byV):=by
  rw[HX0.out]
  refine⟨by simp,.inr ⟨w.heap.size,1,#[.int .u8 x0.toNat],rfl,Nat.le_refl _,by rw[hw2];exact heap_alloc_new w _,Nat.le_refl _,by unfold maxLen;omega,by simp,by simp[byV]⟩⟩
 have HI:Hid (Below w.heap.size w w2∧w2.ownsRow w.heap.size 5 1 (.slice (some ⟨w.heap.size,0,none⟩) 1 1) 1 ((LK.take 1).map byV)):=⟨hb2,ho2⟩
 clear hw2 hb2 ho2 hcell
 go_loopw [7,17] (fun v i wr=>∃ k:Nat,k≤N∧i=.int .i64 k∧Below w.heap.size w wr∧wr.ownsRow w.heap.size 5 1 v (k+1) ((LK.take (k+1)).map byV)) (fun _ i _=>N-(intOf i).toNat)
 case atStart=>exact⟨0,by omega,rfl,HI.out.1,HI.out.2⟩
 case round=>
  obtain⟨k,hk,rfl,hb,ho⟩:=hrel
  have HBW:Hid (Below w.heap.size w wr):=hb
  have hsz:=hb.size
  have HO:Hid (wr.ownsRow w.heap.size 5 1 u7 (k+1) ((LK.take (k+1)).map byV)):=ho
  by_cases hlt:k<N
  ·have hltI:(k:Int)<N:=by omega
   have hkr:k<row.length:=by have:=HN.out;omega
   obtain⟨g2,o2,c2,e1,hc2⟩:=(HR.out.below hb).at (i:=k) (by simpa using hkr)
   simp only[Value.slice.injEq] at e1
   obtain⟨rfl,-,rfl⟩:=e1
   have hxk:(row.map Int.ofNat)[k]'(by simpa using hkr)=((row[k]:Nat):Int):=by simp
   rw[hxk] at hc2
   simp only[eI] at hc2
   have hxl:=hrow _ (List.getElem_mem hkr)
   have HLS:Hid (LK.take (k+1+1)=LK.take (k+1)++[bl[row[k]]]):=by
    show _=_
    rw[HLK.out k hkr,List.getD_eq_getElem?_getD,List.getElem?_eq_getElem hxl];rfl
   obtain⟨g3,o3,c3,e3,hc3⟩:=(HB.out.below hb).at (i:=row[k]) hxl
   simp only[Value.slice.injEq,Option.some.injEq,Addr.mk.injEq,and_true] at e3
   obtain⟨⟨rfl,rfl⟩,-,rfl⟩:=e3
   obtain⟨x,hx⟩:∃ x,x=row[k]:=⟨_,rfl⟩
   rw[HBL.out] at hiI
   have hxI:(row[k]:Int)<B:=by have:=HBL.out;omega
   obtain⟨y,hy⟩:∃ y,y=bl[row[k]]:=⟨_,rfl⟩
   rw[←hy] at hc3 HLS
   rw[←hx] at hc2 hc3 hxI
   simp only[byV] at hc3
   clear hb ho hx hy hxk hxl hiI
   go_wp2_with (at_builtin;refine wpList_append_str _ rfl (.tmp 21) (.tmp 26) 73 rfl w.heap.size 5 iU _ 1 1 Tryz.underlying73 hiU hzU hz1U hz2U rfl (by decide) u7 (k+1) ((LK.take (k+1)).map byV) rfl (World.ownsRow.alloc HO.out _) ⟨wr.heap.size,0,none⟩ 1 1 [.int .u8 y.toNat] rfl rfl (World.news_of_block (heap_alloc_new wr _)) (by simp[Value.oneCell']) (by omega) (by unfold maxLen;omega) (by omega) (by simp;omega) _ rfl ?_;intro g4 k4 w4 ho4 hc4 hl4;have HO4:Hid (w4.ownsRow w.heap.size 5 1 (.slice (some ⟨g4,0,none⟩) (k+1+1) k4) (k+1+1) ((LK.take (k+1)).map byV++[.int .u8 y.toNat])):=ho4;have HB4:Hid (Below w.heap.size w w4):=HBW.out.trans (by
     have hal:Below w.heap.size wr (wr.alloc (.cells #[.int .u8 (y.toNat:Int)] 5)):=(Below.refl _ _).alloc hsz _
     obtain⟨e1,e2,e3,e4⟩:=grown_env' hc4
     refine⟨e1,e2,e3,by have:=hal.size;omega,fun b hb=>?_⟩
     rw[←hal.block b hb]
     exact grown_blk' rfl hc4 (by have:=hal.size;omega) (fun q=>by have:=own_ge' HO.out q;omega));clear ho4 hc4)
   go_roundw
   case rel=>
    refine⟨k+1,by omega,by go_num,HB4.out,?_⟩
    rw[HLS.out,List.map_append]
    exact HO4.out
   case measure=>simp[intOf]<;>omega
  ·have hkI:¬(k:Int)<N:=by omega
   have hkN:k=N:=by omega
   have hfin:LK.take (k+1)=LK:=by rw[List.take_of_length_le (by rw[HLL];have:=HN.out;omega)]
   have hkl:k+1=LK.length:=by rw[HLL];have:=HN.out;omega
   rw[hfin,hkl] at ho
   obtain⟨g4,c4,hu7,hcv⟩:=row_conv ho (by omega)
   obtain⟨M,hM⟩:∃ M,M=LK.length:=⟨_,rfl⟩
   rw[←hM] at hcv hu7
   clear hM hkl ho hb hfin HO HLL
   subst hu7
   go_wp2
   go_ret
   exact⟨rfl,HBW.out⟩
theorem RowsE.at {w:World}{v:Value}{ls:List (List Int)} (h:RowsE eI w v ls) {i:Nat} (hi:i<ls.length):∃ b o c u,v=.slice (some ⟨b,o,none⟩) ls.length c∧w.cell? ⟨b,o+i,none⟩=some u∧RowE eI w u ls[i]:=by
 obtain⟨us,h1,h2,h3⟩:=h
 obtain⟨b,o,c,e,hc⟩:=h2.at (i:=i) (by omega)
 exact⟨b,o,c,us[i],by rw[e,h1],hc,h3 i (by omega) hi⟩
theorem RowsE.form {w:World}{v:Value}{ls:List (List Int)} (h:RowsE eI w v ls):∃ a c,v=.slice a ls.length c:=by
 obtain⟨us,h1,h2,h3⟩:=h
 obtain⟨a,c,e⟩:=h2.form
 exact⟨a,c,by rw[e,h1]⟩
def nxI (next:List (List Nat)):List (List Int):=next.map fun r=>r.map Int.ofNat
theorem nxI_len (next:List (List Nat)):(nxI next).length=next.length:=by simp[nxI]
theorem nxI_at (next:List (List Nat)) (k:Nat) (h:k<next.length):(nxI next)[k]'(by rw[nxI_len];exact h)=next[k].map Int.ofNat:=by simp[nxI]
def coF (col:List UInt8) (k j:Nat):Value:=if j<k then byV (col[j]?.getD 0) else .int .u8 0
theorem nw_conv' {w:World}{g n:Nat}{l:List UInt8} (h:Nw w g n (fun j=>byV (l[j]?.getD 0))) (hl:l.length=n):(convert 73 9 (.slice (some ⟨g,0,none⟩) n n)).run Tryz.prog w=.ok (.string (ba l)) w:=by
 have:=run_convert_bytes_back (P:=Tryz.prog) w 73 9 5 ⟨g,0,none⟩ n l Tryz.underlying73 uB uS (by
  intro j hj
  have:=h.c j (by omega)
  have e:(⟨g,0,none⟩:Addr).add j=⟨g,j,none⟩:=by unfold Addr.add;split<;>simp_all
  rw[e]
  simpa [hj,byV] using this)
 rw[hl] at this
 exact this
theorem column_any (w:World) (f b:Bool) (st:Int) (cls:ByteArray) (va vn vb:Value) (next:List (List Nat)) (bl:List UInt8) (cl:Nat) (h:RowsE eI w vn (nxI next)) (hb:RowE byV w vb bl) (hrow:∀ r∈next,cl<r.length∧(∀ x∈r,x<bl.length)∧r.length≤256) (hl:next.length≤200) (hbl:bl.length≤200) :
  Calls Tryz.prog 142 #[.agg #[.bool f,.bool b,.int .i64 st,.string cls,va,vn],vb,.int .i64 cl] w fun e w'=>e=.returned (.string (ba (colM bl next cl)))∧Below w.heap.size w w':=by
 have HN:Hid (RowsE eI w vn (nxI next)):=h
 have HB:Hid (RowE byV w vb bl):=hb
 obtain⟨na,nc,rfl⟩:=h.form
 obtain⟨ba',bc',rfl⟩:=hb.form
 obtain⟨iU,hiU,hzU,hz1U,hz2U⟩:=info_parts Tryz.infoU8
 rw[nxI_len] at HN ⊢
 obtain⟨N,hNe⟩:∃ N,N=next.length:=⟨_,rfl⟩
 have HNL:Hid (N=next.length):=hNe
 obtain⟨B,hB⟩:∃ B,B=bl.length:=⟨_,rfl⟩
 have HBL:Hid (B=bl.length):=hB
 rw[←hNe] at hl HN ⊢
 rw[←hB] at hbl HB ⊢
 have hmk:=fun w0=>make_eq Tryz.underlying73 hiU hzU hz1U hz2U N (by omega) (by unfold maxLen;omega) w0
 have hcl:(colM bl next cl).length=N:=by simp[colM,hNe]
 have HCO:Hid (∀ k (hk:k<next.length),(colM bl next cl)[k]?.getD 0=bl.getD (next[k].getD cl 0) 0):=fun k hk=>by simp[colM,hk]
 obtain⟨C,hC⟩:∃ C,C=colM bl next cl:=⟨_,rfl⟩
 rw[←hC] at hcl HCO ⊢
 have HCL:Hid (C.length=N):=hcl
 clear h hb hNe hB hC hcl
 go_enter Tryz.func142,Tryz.ntmps142
 go_wp2
 obtain⟨w2,hw2⟩:∃ w2,w2=(w.alloc (.cells #[.bool f,.bool b,.int .i64 st,.string cls,va,.slice na N nc] 33)).alloc (.cells (mkA N (.int .u8 0)) 5):=⟨_,rfl⟩
 rw[←hw2]
 have hb2:Below w.heap.size w w2:=by rw[hw2];exact((Below.refl _ _).alloc (Nat.le_refl _) _).alloc (by simp) _
 have hn2:Nw w2 (w.heap.size+1) N (coF C 0):=by
  rw[hw2]
  have:=Nw.new (w.alloc (.cells #[.bool f,.bool b,.int .i64 st,.string cls,va,.slice na N nc] 33)) N (.int .u8 0) rfl 5
  simp only[World.size_alloc] at this
  exact this.congr (fun j hj=>by simp[coF])
 have HI:Hid (Below w.heap.size w w2∧Nw w2 (w.heap.size+1) N (coF C 0)):=⟨hb2,hn2⟩
 clear hw2 hb2 hn2 hmk
 go_loopw [17] (fun i wr=>∃ k:Nat,k≤N∧i=.int .i64 k∧Below w.heap.size w wr∧Nw wr (w.heap.size+1) N (coF C k)) (fun i _=>N-(intOf i).toNat)
 case atStart=>exact⟨0,by omega,rfl,HI.out.1,HI.out.2⟩
 case round=>
  obtain⟨k,hk,rfl,hbw,hn⟩:=hrel
  have HBW:Hid (Below w.heap.size w wr):=hbw
  have HNW:Hid (Nw wr (w.heap.size+1) N (coF C k)):=hn
  by_cases hlt:k<N
  ·have hltI:(k:Int)<N:=by omega
   have hkn:k<next.length:=by have:=HNL.out;omega
   obtain⟨g,o,c,u,e1,hcell,hru⟩:=(HN.out.below hbw).at (i:=k) (by rw[nxI_len];exact hkn)
   simp only[Value.slice.injEq] at e1
   obtain⟨rfl,-,rfl⟩:=e1
   rw[nxI_at next k hkn] at hru
   obtain⟨q1,q2,q3⟩:=hrow _ (List.getElem_mem hkn)
   obtain⟨g2,o2,c2,rfl,hc2⟩:=hru.at (i:=cl) (by simpa using q1)
   simp only[List.getElem_map,List.length_map] at hc2 hcell
   have hxl:=q2 _ (List.getElem_mem q1)
   obtain⟨g3,o3,c3,e3,hc3⟩:=(HB.out.below hbw).at (i:=next[k][cl]) hxl
   simp only[Value.slice.injEq] at e3
   obtain⟨rfl,-,rfl⟩:=e3
   have HCK:=HCO.out k hkn
   rw[List.getD_eq_getElem?_getD,List.getD_eq_getElem?_getD,List.getElem?_eq_getElem q1,Option.getD_some,List.getElem?_eq_getElem hxl,Option.getD_some] at HCK
   obtain⟨L,hL⟩:∃ L,L=next[k].length:=⟨_,rfl⟩
   rw[←hL] at hcell
   have hclI:(cl:Int)<L:=by omega
   have hclN:cl<L:=by omega
   obtain⟨x,hx⟩:∃ x,x=next[k][cl]:=⟨_,rfl⟩
   have hxI:(x:Int)<B:=by have:=HBL.out;rw[hx];omega
   have hxN:x<B:=by have:=HBL.out;rw[hx];omega
   simp only[←hx] at hc2 hc3 HCK
   obtain⟨y,hy⟩:∃ y,y=bl[x]'(by have:=HBL.out;omega):=⟨_,rfl⟩
   rw[←hy] at hc3 HCK
   simp only[byV] at hc3
   have hc2':wr.cell? ⟨g2,o2+cl,none⟩=some (.int .i64 (x:Int)):=hc2
   have ac:=hn.c k hlt
   have af:=hn.fz
   have HF:Hid (∀ j,j<N→(if j=k then(Value.int .u8 (y.toNat:Int)) else coF C k j)=coF C (k+1) j):=fun j hj=>by
    unfold coF
    by_cases e:j=k
    ·subst e;rw[if_pos rfl,if_pos (by omega),HCK];rfl
    ·rw[if_neg e]
     by_cases e2:j<k
     ·rw[if_pos e2,if_pos (by omega)]
     ·rw[if_neg e2,if_neg (by omega)]
   clear hbw hn hru q1 q2 q3 hxl hL hx hy HCK hc2
   go_wp2
   go_roundw
   case rel=>
    exact⟨k+1,by omega,by go_num,HBW.out.setCell (p:=⟨w.heap.size+1,k,none⟩) (show w.heap.size≤w.heap.size+1 by omega) _,(HNW.out.set k hlt (.int .u8 (y.toNat:Int))).congr HF.out⟩
   case measure=>simp[intOf]<;>omega
  ·have hkI:¬(k:Int)<N:=by omega
   have hkN:k=N:=by omega
   subst hkN
   have hcv:=nw_conv' (l:=C) (hn.congr (f':=fun j=>byV (C[j]?.getD 0)) (fun j hj=>by unfold coF;rw[if_pos hj])) HCL.out
   clear hbw hn
   go_wp2
   go_ret
   exact⟨rfl,HBW.out⟩
theorem looks_len (bl:List UInt8) (next:List (List Nat)):(looksM bl next).length=next.length:=by simp[looksM]
theorem looks_at (bl:List UInt8) (next:List (List Nat)) (k:Nat) (h:k<next.length):(looksM bl next)[k]'(by rw[looks_len];exact h)=lookM bl k next[k]:=by simp[looksM]
def fiF (L:List (List UInt8)) (k j:Nat):Value:=if j<k then byV (UInt8.ofNat (ixL (metL [] L) (L[j]?.getD []))) else .int .u8 0
structure LI (S:Nat) (wS:World) (fb n:Nat) (W:World) (v:Value) (met:List (List UInt8)) (f:Nat→Value):Prop where
 num:NumAt 9 1 W (S+1) S v (met.map sgV) 0
 nv:∀ g,v.ownBlock=some g→fb<g
 fb2:S+2≤fb
 fi:Nw W fb n f
 bl:Below S wS W
 lt:fb<W.heap.size
section
variable {S:Nat}{wS:World}{fb n:Nat}{W W':World}{v:Value}{met:List (List UInt8)}{f:Nat→Value}
theorem LI.below (h:LI S wS fb n W v met f) (hS:wS.heap.size=S) (hb:Below W.heap.size W W'):LI S wS fb n W' v met f:=by
 have:=h.bl.size
 refine⟨h.num.keep (fun b hb'=>hb.block b (h.num.lt hb')),h.nv,h.fb2,h.fi.of_block (hb.block fb h.lt),h.bl.trans (hb.mono (by omega)),Nat.lt_of_lt_of_le h.lt hb.size⟩
theorem LI.of (h:LI S wS fb n W v met f) {v':Value}{met':List (List UInt8)} (hn:NumAt 9 1 W' (S+1) S v' (met'.map sgV) 0) (hg:∀ g,v'.ownBlock=some g→v.ownBlock=some g∨W.heap.size≤g) (hx:Exc (Foot (S+1) S v) W W'):LI S wS fb n W' v' met' f:=by
 have h2:=h.fb2
 have h3:=h.lt
 have hf:∀ {b},Foot (S+1) S v b→S≤b∧b≠fb:=fun {b} q=>by
  rcases q with q|q|q
  ·omega
  ·omega
  ·have:=h.nv b q.symm;omega
 refine⟨hn,fun g hg'=>?_,h2,h.fi.of_block (hx.block fb h3 (fun q=>(hf q).2 rfl)),⟨hx.os.trans h.bl.os,hx.tape.trans h.bl.tape,hx.output.trans h.bl.output,Nat.le_trans h.bl.size hx.size,fun b hb=>?_⟩,Nat.lt_of_lt_of_le h3 hx.size⟩
 ·rcases hg g hg' with q|q
  ·exact h.nv g q
  ·omega
 ·rcases Nat.lt_or_ge b W.heap.size with hlt|hge
  ·exact(hx.block b hlt (fun q=>by have:=(hf q).1;omega)).trans (h.bl.block b hb)
  ·omega
theorem LI.set (h:LI S wS fb n W v met f) (k:Nat) (hk:k<n) (x:Value):LI S wS fb n (W.setCell ⟨fb,k,none⟩ x) v met (fun j=>if j=k then x else f j):=by
 have h2:=h.fb2
 refine⟨h.num.exc (S:=fun b=>b=fb) (exc_set rfl) (fun b hb q=>?_),h.nv,h2,h.fi.set k hk x,h.bl.setCell (p:=⟨fb,k,none⟩) (show S≤fb by omega) _,by rw[size_set'];exact h.lt⟩
 rcases hb with hb|hb|hb
 ·omega
 ·omega
 ·have:=h.nv b hb.symm;omega
end
open Go.RowKit
structure SpB (w:World) (next:List (List Nat)) (R:List UInt8) (tc:Array Value) (W:World) (v:Value) (bl:List UInt8) (many fu:Nat):Prop where
 row:RowE byV W v bl
 len:bl.length=next.length
 bel:Below w.heap.size w W
 box:W.heap[w.heap.size]?=some (.cells tc 33)
 fue:splitM next fu bl many=R
 big:202≤fu+many
 man:many≤next.length
def manyOf (a:Act):Nat:=(intOf (a.tmps.getD 4 undef)).toNat
theorem split_any (w:World) (f b:Bool) (st:Int) (cls:List UInt8) (va vn:Value) (acc:List Bool) (next:List (List Nat)) (hA:RowE eB w va acc) (hN:RowsE eI w vn (nxI next)) (n K:Nat) (ha:acc.length=n) (hnl:next.length=n) (hrow:∀ r∈next,r.length=K∧∀ x∈r,x<n) (hn200:n≤200) (hK:K≤256) :
  Calls Tryz.prog 79 #[.agg #[.bool f,.bool b,.int .i64 st,.string (ba cls),va,vn]] w fun e w'=>∃ v,e=.returned v∧RowE byV w' v (splitM next 202 (bkOf acc) 0)∧Below w.heap.size w w':=by
 obtain⟨R,hR⟩:∃ R,R=splitM next 202 (bkOf acc) 0:=⟨_,rfl⟩
 rw[←hR]
 have HR:Hid (R=splitM next 202 (bkOf acc) 0):=hR
 clear hR
 have HN:Hid (RowsE eI w vn (nxI next)):=hN
 obtain⟨na,nc,hvn⟩:=hN.form
 rw[nxI_len,hnl] at hvn
 subst hvn
 obtain⟨iU,hiU,hzU,hz1U,hz2U⟩:=info_parts Tryz.infoU8
 obtain⟨tc,htc⟩:∃ tc:Array Value,tc=#[.bool f,.bool b,.int .i64 st,.string (ba cls),va,.slice na n nc]:=⟨_,rfl⟩
 have HTC:Hid (tc=#[.bool f,.bool b,.int .i64 st,.string (ba cls),va,.slice na n nc]):=htc
 have hb1:Below w.heap.size w (w.alloc (.cells tc 33)):=(Below.refl _ _).alloc (Nat.le_refl _) _
 have hac:=accepting_any (w.alloc (.cells tc 33)) ⟨f,b,st,cls,acc,nxI next⟩ va (.slice na n nc) (hA.below hb1) (by rw[ha];exact hn200)
 simp only[htc] at hac
 have HSTART:Hid (∀ w2 v,Below (w.alloc (.cells tc 33)).heap.size (w.alloc (.cells tc 33)) w2→RowE byV w2 v (bkOf acc)→SpB w next R tc w2 v (bkOf acc) 0 202):=fun w2 v hb2 hr=>by
  refine⟨hr,by rw[bk_len,ha,hnl],hb1.trans (hb2.mono (by simp)),(hb2.block _ (by simp)).trans (heap_alloc_new w _),HR.out.symm,by omega,by omega⟩
 simp only[htc] at HSTART
 obtain⟨J,hJ⟩:∃ J:Act→World→Prop,∀ a' w',J a' w'↔(∃ v bl many fu,SpB w next R tc w' v bl many fu∧∃ u5 u6 u7 u8 u9 u10 u11 u12 u13 u14 u15 u16 u17 u18 u19 u20 u21 u22 u23 u24 u25 u26 u27 u28 u29 u30 u31 u32 u33 u34 u35 u36 u37 u38 u39 u40 u41,a'={tmps:=#[.agg #[.bool f,.bool b,.int .i64 st,.string (ba cls),va,.slice na n nc],.pointer (some ⟨w.heap.size,0,none⟩),.slice none 0 0,v,.int .i64 (many:Int),u5,u6,u7,u8,u9,u10,u11,u12,u13,u14,u15,u16,u17,u18,u19,u20,u21,u22,u23,u24,u25,u26,u27,u28,u29,u30,u31,u32,u33,u34,u35,u36,u37,u38,u39,u40,u41],defers:=[]}):=⟨_,fun _ _=>Iff.rfl⟩
 have HJ:Hid (∀ a' w',J a' w'↔(∃ v bl many fu,SpB w next R tc w' v bl many fu∧∃ u5 u6 u7 u8 u9 u10 u11 u12 u13 u14 u15 u16 u17 u18 u19 u20 u21 u22 u23 u24 u25 u26 u27 u28 u29 u30 u31 u32 u33 u34 u35 u36 u37 u38 u39 u40 u41,a'={tmps:=#[.agg #[.bool f,.bool b,.int .i64 st,.string (ba cls),va,.slice na n nc],.pointer (some ⟨w.heap.size,0,none⟩),.slice none 0 0,v,.int .i64 (many:Int),u5,u6,u7,u8,u9,u10,u11,u12,u13,u14,u15,u16,u17,u18,u19,u20,u21,u22,u23,u24,u25,u26,u27,u28,u29,u30,u31,u32,u33,u34,u35,u36,u37,u38,u39,u40,u41],defers:=[]})):=hJ
 clear hJ hA hN hb1
 go_enter Tryz.func79,Tryz.ntmps79
 go_wp2
 refine Sx.wp_scope_once 0 J (fun a' _=>202-manyOf a') rfl ?_ ?_
 ·intro hp
  have HPP:Hid _:=hp
  clear hp
  go_wp2_with (go_at_call 137;refine hac.mono ?_;rintro e w2 ⟨v,rfl,hr2,hb2⟩;have HS:Hid (SpB w next R tc w2 v (bkOf acc) 0 202):=(by rw[htc];exact HSTART.out w2 v hb2 hr2);clear hr2 hb2)
  go_step3
  exact ‹∀ a w,Code.wp _ _ _ a w→_› _ _ (HPP.out _ _ ((HJ.out _ _).2 ⟨v,bkOf acc,0,202,HS.out,_,_,_,_,_,_,_,_,_,_,_,_,_,_,_,_,_,_,_,_,_,_,_,_,_,_,_,_,_,_,_,_,_,_,_,_,_,rfl⟩))
 ·intro a' w' hj
  obtain⟨v,bl,many,fu,hsp,u5,u6,u7,u8,u9,u10,u11,u12,u13,u14,u15,u16,u17,u18,u19,u20,u21,u22,u23,u24,u25,u26,u27,u28,u29,u30,u31,u32,u33,u34,u35,u36,u37,u38,u39,u40,u41,rfl⟩:=(HJ.out _ _).1 hj
  clear hj
  have HSP:Hid (SpB w next R tc w' v bl many fu):=hsp
  have hbl:=hsp.len
  have hman:=hsp.man
  have hbig:=hsp.big
  obtain⟨va2,vc2,hv⟩:=hsp.row.form
  rw[hbl,hnl] at hv
  have HV:Hid (v=.slice va2 n vc2):=hv
  obtain⟨fu',hfu⟩:∃ fu',fu=fu'+1:=⟨fu-1,by omega⟩
  obtain⟨L,hL⟩:∃ L,L=looksM bl next:=⟨_,rfl⟩
  have hLl:L.length=n:=by rw[hL,looks_len,hnl]
  have HLA:Hid (∀ k (h:k<next.length),L[k]'(by omega)=lookM bl k next[k]):=fun k h=>by simp only[hL];exact looks_at bl next k h
  have HSTEP:Hid (R=if many<(metL [] L).length then splitM next fu' (L.map fun l=>UInt8.ofNat (ixL (metL [] L) l)) (metL [] L).length else bl):=by
   show _=_
   rw[←hsp.fue,hfu,hL];rfl
  have hML:(metL [] L).length≤n:=by have:=metL_len [] L;simp at this;omega
  have HLLEN:Hid (∀ l∈L,l.length≤257):=fun l hl=>by
   obtain⟨j,hj,rfl⟩:=List.getElem_of_mem hl
   rw[HLA.out j (by omega),look_len,(hrow _ (List.getElem_mem _)).1];omega
  obtain⟨S,hS⟩:∃ S,S=w'.heap.size:=⟨_,rfl⟩
  have hnew:=newSg_any w'
  rw[←hS] at hnew
  have hmk:=fun w0=>make_eq Tryz.underlying73 hiU hzU hz1U hz2U n (by omega) (by unfold maxLen;omega) w0
  have HINIT:Hid (∀ w3,NumAt 9 1 w3 (S+1) S (.slice none 0 0) [] 0→Below S w' w3→LI S w' w3.heap.size n (w3.alloc (.cells (mkA n (.int .u8 0)) 5)) (.slice none 0 0) [] (fiF L 0)):=fun w3 hn hb=>by
   have hl1:=hn.lt (.inl rfl)
   have hal:Below w3.heap.size w3 (w3.alloc (.cells (mkA n (.int .u8 0)) 5)):=(Below.refl _ _).alloc (Nat.le_refl _) _
   refine⟨hn.keep (fun q hq=>hal.block q (hn.lt hq)),fun g hg=>by simp[Value.ownBlock] at hg,by omega,(Nw.new w3 n (.int .u8 0) rfl 5).congr (fun j hj=>by simp[fiF]),hb.trans (hal.mono (by have:=hb.size;omega)),by simp⟩
  have HS:Hid (w'.heap.size=S):=hS.symm
  have hSw:w.heap.size+1≤S:=by have:=(Array.getElem?_eq_some_iff.1 hsp.box).1;omega
  have HBOX:Hid (∀ W,Below S w' W→W.cell? ⟨w.heap.size,5,none⟩=some (.slice na n nc)):=fun W hb=>by
   have e1:=(hb.block w.heap.size (by omega)).trans HSP.out.box
   simp[World.cell?,e1,htc]
  have HBEL:Hid (∀ W,Below S w' W→Below w.heap.size w W):=fun W hb=>HSP.out.bel.trans (hb.mono (by omega))
  have HROW:Hid (∀ W,Below S w' W→RowE byV W v bl):=fun W hb=>HSP.out.row.below (by rw[HS.out];exact hb)
  have hbig2:202≤fu'+1+many:=by omega
  subst hv
  clear hsp hL hS hfu hac HSTART
  go_wp2_with (go_at_call 138;refine hnew.mono ?_;rintro e w3 ⟨rfl,hn3,hb3⟩;have hli:=HINIT.out w3 hn3 hb3;have h5:=HBOX.out _ hli.bl;clear hn3 hb3)
  obtain⟨w4,hw4⟩:∃ w4,w4=w3.alloc (.cells (mkA n (.int .u8 0)) 5):=⟨_,rfl⟩
  obtain⟨fb,hfb⟩:∃ fb,fb=w3.heap.size:=⟨_,rfl⟩
  rw[←hw4,←hfb] at hli
  rw[←hw4,←hfb]
  have HLI:Hid (LI S w' fb n w4 (.slice none 0 0) [] (fiF L 0)):=hli
  clear hw4 hfb hli h5 hmk hnew HINIT
  go_loopw [18] (fun i wr=>∃(k:Nat) (v':Value),k≤n∧i=.int .i64 k∧LI S w' fb n wr v' (metL [] (L.take k)) (fiF L k)) (fun i _=>n-(intOf i).toNat)
  case atStart=>exact⟨0,_,by omega,rfl,HLI.out⟩
  case round=>
   obtain⟨k,v',hk,rfl,hli⟩:=hrel
   have HL1:Hid (LI S w' fb n wr v' (metL [] (L.take k)) (fiF L k)):=hli
   by_cases hlt:k<n
   ·have hltI:(k:Int)<n:=by omega
    have hkn:k<next.length:=by omega
    obtain⟨g,o,c,u,e1,hcell,hru⟩:=(HN.out.below (HBEL.out wr hli.bl)).at (i:=k) (by rw[nxI_len];exact hkn)
    simp only[Value.slice.injEq] at e1
    obtain⟨rfl,-,rfl⟩:=e1
    rw[nxI_at next k hkn] at hru
    obtain⟨q1,q2⟩:=hrow _ (List.getElem_mem hkn)
    have hlk:=look_any wr bl (.slice va2 n vc2) (HROW.out wr hli.bl) k (by omega) next[k] u hru (fun x hx=>by have:=q2 x hx;omega) (by omega) (by omega)
    rw[←HLA.out k hkn] at hlk
    have hLm:L[k]'(by omega)∈L:=List.getElem_mem _
    have HSUC:Hid (metL [] (L.take (k+1))=pushM (metL [] (L.take k)) (L[k]'(by omega))):=metL_take_succ [] (by omega)
    have HIX:Hid (ixL (metL [] L) (L[k]'(by omega))=@List.idxOf _ instBEqOfDecidableEq (L[k]'(by omega)) (pushM (metL [] (L.take k)) (L[k]'(by omega)))):=idx_at [] (by omega)
    have hC:ixL (metL [] L) (L[k]'(by omega))<256:=by
     have:ixL (metL [] L) (L[k]'(by omega))<(metL [] L).length:=ixL_lt (mem_metL.2 (.inr hLm))
     omega
    have HFF:Hid (∀ j,j<n→(if j=k then(Value.int .u8 ((ixL (metL [] L) (L[k]'(by omega)):Nat):Int)) else fiF L k j)=fiF L (k+1) j):=fun j hj=>by
     unfold fiF
     by_cases e:j=k
     ·subst e
      rw[if_pos rfl,if_pos (by omega),List.getElem?_eq_getElem (by omega)]
      simp only[Option.getD_some,byV]
      rw[UInt8.toNat_ofNat',Nat.mod_eq_of_lt hC]
     ·rw[if_neg e]
      by_cases e2:j<k
      ·rw[if_pos e2,if_pos (by omega)]
      ·rw[if_neg e2,if_neg (by omega)]
    have hnum:=(fun W (h:LI S w' fb n W v' (metL [] (L.take k)) (fiF L k))=>ofSg_any W (S+1) S v' (metL [] (L.take k)) 0 (L[k]'(by omega)) h.num (fun y hy=>by
     have:y∈L:=List.mem_of_mem_take (by simpa using mem_metL.1 hy)
     have:=HLLEN.out y this;omega) (by have:=HLLEN.out _ hLm;omega) (by have:=metL_len [] (L.take k);simp at this;omega) (metL_nodup (by simp) _))
    simp only[←HIX.out] at hnum
    have HOF:Hid (∀ W,LI S w' fb n W v' (metL [] (L.take k)) (fiF L k)→Calls Tryz.prog 139 #[.pointer (some ⟨S+1,0,none⟩),.string (ba (L[k]'(by omega)))] W fun e w''=>e=.returned (.int .i64 ((ixL (metL [] L) (L[k]'(by omega)):Nat):Int))∧∃ v2,NumAt 9 1 w'' (S+1) S v2 ((pushM (metL [] (L.take k)) (L[k]'(by omega))).map sgV) 0∧(∀ g,v2.ownBlock=some g→v'.ownBlock=some g∨W.heap.size≤g)∧Exc (Foot (S+1) S v') W w''):=hnum
    obtain⟨X,hX⟩:∃ X,X=L[k]'(by omega):=⟨_,rfl⟩
    rw[←hX] at hlk HSUC HFF HOF hC
    obtain⟨m,hm⟩:∃ m,m=metL [] (L.take k):=⟨_,rfl⟩
    rw[←hm] at HSUC HOF HL1
    obtain⟨C,hCe⟩:∃ C,C=ixL (metL [] L) X:=⟨_,rfl⟩
    rw[←hCe] at HFF HOF hC
    have hCI:(C:Int)<256:=by omega
    clear hli hru q1 q2 hLm HIX hnum hX hm hCe
    have af:=HL1.out.fi.fz
    go_wp2_with (first|(go_at_call 139;refine(HOF.out w5 HL5.out).mono ?_;rintro e w6 ⟨rfl,v2,hn6,hg6,hx6⟩;have hl6:=HL5.out.of hn6 hg6 hx6;have HL6:Hid (LI S w' fb n w6 v2 (pushM m X) (fiF L k)):=hl6;have ac6:=hl6.fi.c k hlt;have af6:=hl6.fi.fz;clear hn6 hg6 hx6 hl6)|(go_at_call 140;refine hlk.mono ?_;rintro e w5 ⟨rfl,hb5⟩;have HL5:Hid (LI S w' fb n w5 v' m (fiF L k)):=HL1.out.below HS.out hb5;clear hb5))
    go_roundw
    case rel=>
     refine⟨k+1,v2,by omega,by go_num,?_⟩
     have h7:=HL6.out.set k hlt (.int .u8 (C:Int))
     rw[HSUC.out]
     exact⟨h7.num,h7.nv,h7.fb2,h7.fi.congr HFF.out,h7.bl,h7.lt⟩
    case measure=>simp[intOf]<;>omega
   ·have hkI:¬(k:Int)<n:=by omega
    have hkn:k=n:=by omega
    subst hkn
    rw[List.take_of_length_le (by omega)] at hli
    have HL2:Hid (LI S w' fb k wr v' (metL [] L) (fiF L k)):=hli
    have hcnt:=countSg_any wr (S+1) S v' ((metL [] L).map sgV) 0 hli.num
    rw[List.length_map] at hcnt
    obtain⟨M,hM⟩:∃ M,M=(metL [] L).length:=⟨_,rfl⟩
    rw[←hM] at hcnt HSTEP hML
    have HFR:Hid (RowE byV wr (.slice (some ⟨fb,0,none⟩) k k) (L.map fun l=>UInt8.ofNat (ixL (metL [] L) l))):=by
     have hl2:(L.map fun l=>UInt8.ofNat (ixL (metL [] L) l)).length=k:=by simp[hLl]
     have:=Nw.row (l:=L.map fun l=>UInt8.ofNat (ixL (metL [] L) l)) (enc:=byV) (c:=k) (f:=fiF L k) (by rw[hl2];exact hli.fi) (fun j hj=>by
      have hjL:j<L.length:=by simpa using hj
      unfold fiF
      rw[if_pos (by omega),List.getElem?_eq_getElem hjL]
      simp)
     rw[hl2] at this
     exact this
    have hMn:M≤next.length:=by omega
    clear hli HL1 hM
    by_cases hgt:many<M
    ·have hgtI:(many:Int)<M:=by omega
     have HNX:Hid (SpB w next R tc wr (.slice (some ⟨fb,0,none⟩) k k) (L.map fun l=>UInt8.ofNat (ixL (metL [] L) l)) M fu'):=by
      refine⟨HFR.out,by simp;omega,HBEL.out wr HL2.out.bl,(HL2.out.bl.block _ (by omega)).trans HSP.out.box,?_,by omega,hMn⟩
      rw[HSTEP.out,if_pos hgt]
     go_wp2_with (go_at_call 141;refine hcnt.mono ?_;rintro e w9 ⟨rfl,hw9⟩;obtain rfl:=hw9.symm)
     go_step3
     refine⟨rfl,(HJ.out _ _).2 ⟨_,_,M,fu',HNX.out,_,_,_,_,_,_,_,_,_,_,_,_,_,_,_,_,_,_,_,_,_,_,_,_,_,_,_,_,_,_,_,_,_,_,_,_,_,rfl⟩,?_⟩
     simp[manyOf,intOf]
     omega
    ·have hgtI:¬(many:Int)<M:=by omega
     have HQ:Hid (R=bl):=by show _=_;rw[HSTEP.out,if_neg hgt]
     go_wp2_with (go_at_call 141;refine hcnt.mono ?_;rintro e w9 ⟨rfl,hw9⟩;obtain rfl:=hw9.symm)
     simp only[Exit.jump]
     go_ret
     refine⟨_,rfl,?_,HBEL.out wr HL2.out.bl⟩
     rw[HQ.out]
     exact HROW.out wr HL2.out.bl
section
variable {α β:Type} [DecidableEq α] [DecidableEq β]
theorem ixL_get {l:List α}{a:α} (ha:a∈l):l[ixL l a]'(ixL_lt ha)=a:=List.getElem_idxOf (ixL_lt ha)
theorem ixL_at {l:List α} (hd:l.Nodup) {i:Nat} (h:i<l.length):ixL l l[i]=i:=by
 have h1:=ixL_lt (List.getElem_mem h)
 exact(List.getElem_inj hd).1 (ixL_get (List.getElem_mem h))
end
structure RwInv {α β:Type} [DecidableEq α] (step:α→β→α) (rs:List β) (met:List α) (tk:Nat) (rows:List (List Nat)):Prop where
 l:rows.length=tk
 t:tk≤met.length
 r:∀ i q,i<tk→met[i]?=some q→rows[i]?=some (rs.map fun r=>ixL met (step q r))∧∀ r∈rs,step q r∈met
theorem pre_get {α:Type}{m m':List α} (h:m <+: m') {i:Nat} (hi:i<m.length):m'[i]?=m[i]?:=by
 obtain⟨r,rfl⟩:=h
 exact List.getElem?_append_left hi
theorem stsM_told {α β:Type} [DecidableEq α] {step:α→β→α}{rs:List β}{limit:Nat}:∀ {f:Nat}{met:List α}{tk:Nat}{rows:List (List Nat)}{x:List α×List (List Nat)},RwInv step rs met tk rows→stsM step rs limit f met tk rows=some x→RwInv step rs x.1 x.1.length x.2∧met <+: x.1
 |0,met,tk,rows,x,_,e=>by simp[stsM] at e
 |f+1,met,tk,rows,x,h,e=>by
  simp only[stsM] at e
  split at e
  ·rename_i hn
   simp at e
   subst e
   have h1:=List.getElem?_eq_none_iff.1 hn
   have h2:=h.t
   have:tk=met.length:=by omega
   subst this
   exact⟨h,List.prefix_refl _⟩
  ·rename_i q hq
   split at e
   ·simp at e
   ·have hp:=metL_pre met (rs.map (step q))
    have hpl:=hp.length_le
    have htk:=(List.getElem?_eq_some_iff.1 hq).1
    have:=stsM_told (tk:=tk+1) ⟨by simp[h.l],by omega,fun i p hi hip=>?_⟩ e
    ·exact⟨this.1,hp.trans this.2⟩
    ·by_cases hit:i<tk
     ·have hl:=h.t
      rw[pre_get hp (by omega)] at hip
      obtain⟨r1,r2⟩:=h.r i p hit hip
      refine⟨?_,fun r hr=>hp.subset (r2 r hr)⟩
      rw[List.getElem?_append_left (by rw[h.l];exact hit),r1]
      congr 1
      exact List.map_congr_left (fun r hr=>(idx_pre hp (r2 r hr)).symm)
     ·have:i=tk:=by omega
      subst this
      rw[pre_get hp htk,hq] at hip
      injection hip with hip
      subst hip
      refine⟨?_,fun r hr=>mem_metL.2 (.inr (List.mem_map.2 ⟨r,hr,rfl⟩))⟩
      rw[List.getElem?_append_right (by rw[h.l];exact Nat.le_refl _),h.l]
      simp[ixL,Function.comp_def]
theorem stsM_rch {α β:Type} [DecidableEq α] {step:α→β→α}{rs:List β}{limit:Nat}:∀ {f:Nat}{met:List α}{tk:Nat}{rows:List (List Nat)}{x:List α×List (List Nat)},met.Nodup→(∀ j q,0<j→met[j]?=some q→∃ i p r,i<j∧met[i]?=some p∧r∈rs∧step p r=q)→tk≤met.length→stsM step rs limit f met tk rows=some x→∀ j q,0<j→x.1[j]?=some q→∃ i p r,i<j∧x.1[i]?=some p∧r∈rs∧step p r=q
 |0,met,tk,rows,x,_,_,_,e=>by simp[stsM] at e
 |f+1,met,tk,rows,x,hd,h,ht,e=>by
  simp only[stsM] at e
  split at e
  ·simp at e;subst e;exact h
  ·rename_i q hq
   split at e
   ·simp at e
   ·have hp:=metL_pre met (rs.map (step q))
    have hpl:=hp.length_le
    have htk:=(List.getElem?_eq_some_iff.1 hq).1
    have hd':=metL_nodup hd (rs.map (step q))
    refine stsM_rch hd' (fun j y hj hy=>?_) (by omega) e
    by_cases hlt:j<met.length
    ·rw[pre_get hp hlt] at hy
     obtain⟨i,p,r,h1,h2,h3,h4⟩:=h j y hj hy
     exact⟨i,p,r,h1,by rw[pre_get hp (by omega)];exact h2,h3,h4⟩
    ·have hjl:=(List.getElem?_eq_some_iff.1 hy).1
     have hm:y∈metL met (rs.map (step q)):=List.mem_of_getElem? hy
     have hnd:y∈rs.map (step q):=by
      rcases mem_metL.1 hm with q1|q1
      ·exfalso
       obtain⟨i,hi,e1⟩:=List.mem_iff_getElem.1 q1
       have e2:(metL met (rs.map (step q)))[i]?=some y:=by rw[pre_get hp hi,List.getElem?_eq_getElem hi,e1]
       have hil:i<(metL met (rs.map (step q))).length:=by omega
       rw[List.getElem?_eq_getElem hil] at e2
       rw[List.getElem?_eq_getElem hjl] at hy
       have:=(List.getElem_inj (h₀:=hil) (h₁:=hjl) hd').1 ((Option.some.inj e2).trans (Option.some.inj hy).symm)
       omega
      ·exact q1
     obtain⟨r,hr,rfl⟩:=List.mem_map.1 hnd
     exact⟨tk,q,r,by omega,by rw[pre_get hp htk];exact hq,hr,rfl⟩
def nx (t:Tn) (i c:Nat):Nat:=(t.next.getD i []).getD c 0
def ac (t:Tn) (i:Nat):Bool:=t.acc.getD i false
structure TnFull (n k:Nat) (t:Tn):Prop where
 ok:TnOk n k t
 rc:∀ j,0<j→j<n→∃ i c,i<j∧c<k∧nx t i c=j
 su:∀ c,c<k→c∈t.cls
theorem getD_at {α:Type}{l:List α}{i:Nat} (h:i<l.length) (d:α):l.getD i d=l[i]:=by
 rw[List.getD_eq_getElem?_getD,List.getElem?_eq_getElem h,Option.getD_some]
theorem searchM_full {p:Sx.Ptn}{limit:Nat}{t:Tn} (hl:1≤limit) (h:searchM p limit=some t):∃ n k,n≤limit∧k≤256∧TnFull n k t:=by
 unfold searchM at h
 split at h
 ·simp at h
 ·split at h
  ·simp at h
  ·rename_i x hx
   simp at h
   subst h
   obtain⟨h1,h2,h3,h4⟩:=stsM_ok (α:=Stt) (show[_].length≤limit from hl) (show StsInv _ [_] 0 [] from⟨rfl,Nat.zero_le _,fun r hr=>absurd hr (by simp)⟩) hx
   have h5:=h4.length_le
   simp at h5
   obtain⟨hr,-⟩:=stsM_told (show RwInv _ _ [_] 0 [] from⟨rfl,Nat.zero_le _,fun i q hi=>absurd hi (by omega)⟩) hx
   have hc:=stsM_rch (by simp) (fun j q hj e=>absurd (List.getElem?_eq_some_iff.1 e).1 (by simp;omega)) (by simp) hx
   have hnd:=stsM_nodup (by simp) hx
   refine⟨x.1.length,(metL [] (rdsM (exCs p.choices pc0 ⟨[],[]⟩).2.bs)).length,h1,?_,⟨⟨by omega,by simp[rdsM],fun c hc=>?_,by simp,h2,h3.r⟩,fun j h0 hj=>?_,fun c hc=>?_⟩⟩
   ·have:=metL_len [] (rdsM (exCs p.choices pc0 ⟨[],[]⟩).2.bs)
    simpa [rdsM] using this
   ·simp only[List.mem_map] at hc
    obtain⟨y,hy,rfl⟩:=hc
    exact idx_metL_lt hy
   ·obtain⟨i,q,r,k1,k2,k3,k4⟩:=hc j _ h0 (List.getElem?_eq_getElem hj)
    have hi:=(List.getElem?_eq_some_iff.1 k2).1
    obtain⟨r1,r2⟩:=hr.r i q hi k2
    obtain⟨c,hc1,hc2⟩:=List.mem_iff_getElem.1 k3
    refine⟨i,c,k1,hc1,?_⟩
    unfold nx
    simp only[List.getD_eq_getElem?_getD,r1,Option.getD_some]
    rw[List.getElem?_map,List.getElem?_eq_getElem hc1]
    simp only[Option.map_some,Option.getD_some,hc2,k4]
    exact ixL_at hnd hj
   ·refine List.mem_map.2 ⟨(metL [] (rdsM (exCs p.choices pc0 ⟨[],[]⟩).2.bs))[c],?_,?_⟩
    ·rcases mem_metL.1 (List.getElem_mem hc) with q|q
     ·simp at q
     ·exact q
    ·exact ixL_at (metL_nodup List.nodup_nil _) hc
end Go.Proofs.YtbjabpodkaokjaaGreatDoor
