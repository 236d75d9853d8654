import Derived.Below
import Derived.Deep.AppendLies
import Derived.KernelRfl
import Derived.Test.YtbjabpodkaokjaaGreatDoorChecked
import GoSem.Claim
import GoSem.ClaimJoined
import GoSem.ClaimMapViews
import Derived.RowKit
import Derived.WalkKit
import Derived.WalkSpells
import Derived.WalkLawsBesides
import Derived.Deep.Light
import Derived.Test.YtbjabpodkaokjaaGreatDoorProg
import Derived.Maps.AppendAt
import Derived.Deep.RegionLaw
import Derived.Deep.Draws
set_option linter.all false
set_option maxHeartbeats 4000000
set_option maxRecDepth 100000
open List Nat Go.World Go.Proofs.Tryz
namespace Go.Proofs.YtbjabpodkaokjaaGreatDoor
variable {n:Nat}{xs:List Value}{cap:Nat}{ρ:Nat->Nat}{q lim:Nat}{w:World}{ops:Array Oper}{o:Oper}{a:Act}{Q:Exit->Act->World->Prop}{i:Nat}{rest:List Oper}{F:World->Prop}
def zh {p:Prop} (h:p):RowKit.Hid p:=h
def zq:n<=n:=Nat.le_refl n
def ZB {B:Nat}:RowKit.Below B w w:=RowKit.Below.refl B w
def ZC {α:Type}{a:Array α}{v:α} (h:a[i]?=some v):i<a.size:=(Array.getElem?_eq_some_iff.1 h).1
def ZA {o:Obj}:RowKit.Below w.heap.size w (w.alloc o):=(RowKit.Below.refl _ _).alloc (Nat.le_refl _) _
def ω {P:Prop} (k:P:=by omega):P:=k
def σ {P:Prop} (k:P:=by simp;omega):P:=k
def Zr {P:Prop} (k:P:=by decide):P:=k
def κ {P:Prop} (k:P:=by kernel_rfl):P:=k
def χ {P:Prop} (k:P:=by simp):P:=k
def ψ {P:Prop} (k:P:=by first|(simp;done)|(simp;omega)):P:=k
def φ {P:Prop} (k:P:=by first|exact zq|(simp;done)|(simp;omega)):P:=k
def θ {P:Prop} (k:P:=by first|omega|(simp;done)|(simp;omega)):P:=k
def Zs {P:Prop} (k:P:=by unfold maxLen;omega):P:=k
def π {P:Prop} (k:P:=by go_num):P:=k
def Zt {P:Prop} (k:P:=by simp[Value.oneCell']):P:=k
def ζ {P:Prop} (k:P:=by simp[intOf]<;>omega):P:=k
def η {P Q:Prop} (h:Q) (k:Q->P:=by intro;omega):P:=k h
def ξ {P Q R:Prop} (h:Q) (i:R) (k:Q->R->P:=by intros;omega):P:=k h i
def Zu {P Q:Prop} (h:Q) (k:Q->P:=by intro h;simp at h;omega):P:=k h
open Go.RowKit
def Za:=@heap_alloc_new
def Zb:=@bodyPost_ret
def Zc:=@Nat.le_trans
def Zd:=@Nat.lt_of_lt_of_le
def Ze:=@Below.heap_alloc
def Zf:=@Below.heap_setCell
def Zg:=@getElem_mem
def Zh:=@if_neg
def Zi:=@if_pos
def Zj:=@getElem?_eq_getElem
def Zk:=@zero_le
def Zl:=@take_succ_eq_append_getElem
def Zm:=@ownsRow.alloc
def Zn:=@ownsRow_nil
def Zo:=@getElem?_append_left
def Zp:=@getElem_append_left
def Zq:=@idxOf_lt_length_of_mem
def zx {α:Sort _} (a:α):∃ x,x=a:=⟨_,rfl⟩
def pM (w:World) (o:Obj) (i:Nat) (h:i<w.heap.size):(w.alloc o).heap[i]?=w.heap[i]?:=by
 show(w.heap.push o)[i]?=_;rw[Array.getElem?_push_lt h,Array.getElem?_eq_getElem h]
section
variable {P:Program} (w:World)
def fG (t ty:TypeId) (base:Nat) (e:TypeId) (i:TypeInfo) (z:Value) (size bytes:Nat) (ht:P.underlying t=some (.slice e)) (hi:P.info? e=some i) (hz:i.zero=some z)
  (hsize:i.size=size) (hby:i.bytes=bytes) (hzs:z.cells.size=size) (hsz:0<size)
  (v:Value) (n:Nat) (xs:List Value) (hown:w.ownsRow base e size v n xs)
  (ad:Addr) (m c:Nat) (news:List Value) (hl:news.length=m*size) (hnews:∀ j u,news[j]?=some u->w.cell? (ad.add j)=some u) (h1:∀ u∈news,u.oneCell'=true)
  (hm:0<m) (h63:n+m<=maxLen) (hbytes:(n+m)*bytes<=140737488355328) (hbase:base<=w.heap.size) (H:Nat) (hH:w.heap.size=H) :
  ∃ g cap w',(Builtin.append_ #[t,t] ty #[v,.slice (some ad) m c]).run P w=.ok (.slice (some ⟨g,0,none⟩) (n+m) cap) w' /\
   w'.ownsRow base e size (.slice (some ⟨g,0,none⟩) (n+m) cap) (n+m) (xs++news)/\((v.ownBlock=some g/\w.grownBy w' (some g))\/(g=H/\w.grownBy w' none))/\g<w'.heap.size:=by
 obtain⟨g,cap,w',hr,h2,h3,h4,h5⟩:=run_append_lies (P:=P) w t ty base e i z size bytes ht hi hz hsize hby hzs hsz v n xs hown ad m c news hl hnews h1 hm h63 hbytes hbase H hH;refine⟨g,cap,w',hr,h2,?_,h5⟩;rcases h4 with h4|h4
 .exact .inl ⟨h4,by rw[<-h4];exact h3⟩
 refine .inr ⟨h4,?_⟩;rcases hown.2 with⟨rfl,rfl⟩|⟨g0,f,h,rfl,G,hg,I,E,B,y⟩
 .exact h3
 by_cases hroom:n+m<=f
 .exfalso
  subst hsize;have s:n*i.size+news.length<=h.size:=by rw[hl,B,<-Nat.add_mul];exact mul_le_mul_right _ hroom
  have d:=run_append_room (P:=P) w t ty e i ht hi g0 n f h hg ad m c news hl hnews h1 hroom s;rw[hr] at d;injection d with e1 e2;injection e1 with e3;injection e3 with e3;injection e3 with e3;have:=(ZC hg)
  omega
 .subst hsize;subst hby;have x:n+m<=9223372036854775807:=by simp only[maxLen] at h63;omega
  have d:=run_append_grow (P:=P) w t ty e i z ht hi hz ⟨g0,0,none⟩ n f xs hown.1 (hown.cells (g:=g0) rfl) ad m c news hl hnews ω ω (growslice_fits ω hbytes);rw[hr] at d;injection d with e1 e2;rw[e2];exact⟨rfl,rfl,rfl,χ,λk hk _=>pM w.drew _ k hk⟩
def cy {K:Act->World->Prop}{E:Prop} (hgd:o.guard=none) (s x:Operand) (t:TypeId)
  (ho:o.op=.call {callee:=.builtin .append,args:=#[s,x],argTypes:=#[t,t]})
  (base:Nat) (e:TypeId) (i:TypeInfo) (z:Value) (size bytes:Nat) (ht:P.underlying t=some (.slice e)) (hi:P.info? e=some i) (hz:i.zero=some z)
  (hsize:i.size=size) (hby:i.bytes=bytes) (hzs:z.cells.size=size) (hsz:0<size)
  (v:Value) (n:Nat) (xs:List Value) (hs:a.eval s=v) (hown:w.ownsRow base e size v n xs)
  (ad:Addr) (m c:Nat) (news:List Value) (hx:a.eval x=.slice (some ad) m c) (hl:news.length=m*size) (hnews:∀ j u,news[j]?=some u->w.cell? (ad.add j)=some u) (h1:∀ u∈news,u.oneCell'=true)
  (hm:0<m) (h63:n+m<=maxLen) (hbytes:(n+m)*bytes<=140737488355328) (hbase:base<=w.heap.size) (H:Nat) (hH:w.heap.size=H)
  (h:∀ g cap w',w'.ownsRow base e size (.slice (some ⟨g,0,none⟩) (n+m) cap) (n+m) (xs++news)->((v.ownBlock=some g/\w.grownBy w' (some g))\/(g=H/\w.grownBy w' none))->g<w'.heap.size->K (a.put o.dst (.slice (some ⟨g,0,none⟩) (n+m) cap)) w') :
  if Region.wanted o (yielded ops a.tmps)=true then Oper.wp P o a w K Q else E:=by
 have hw:Region.wanted o (yielded ops a.tmps)=true:=by simp[Region.wanted,hgd]
 rw[Zi hw];obtain⟨g,cap,w',hr,h2,h3,h4⟩:=fG (P:=P) w t o.type base e i z size bytes ht hi hz hsize hby hzs hsz v n xs hown ad m c news hl hnews h1 hm h63 hbytes hbase H hH;unfold Oper.wp execOp;simp only[ho,resolve,invoke,builtin,Sem.run_bind,Sem.run_pure,Result.andThen_ok,map_toArray,map_cons,map_nil,hs,hx,hr];exact h g cap w' h2 h3 h4
def aD (hgd:o.guard=none) (s x:Operand) (t:TypeId)
  (ho:o.op=.call {callee:=.builtin .append,args:=#[s,x],argTypes:=#[t,t]})
  (base:Nat) (e:TypeId) (i:TypeInfo) (z:Value) (size bytes:Nat) (ht:P.underlying t=some (.slice e)) (hi:P.info? e=some i) (hz:i.zero=some z)
  (hsize:i.size=size) (hby:i.bytes=bytes) (hzs:z.cells.size=size) (hsz:0<size)
  (v:Value) (n:Nat) (xs:List Value) (hs:a.eval s=v) (hown:w.ownsRow base e size v n xs)
  (ad:Addr) (m c:Nat) (news:List Value) (hx:a.eval x=.slice (some ad) m c) (hl:news.length=m*size) (hnews:∀ j u,news[j]?=some u->w.cell? (ad.add j)=some u) (h1:∀ u∈news,u.oneCell'=true)
  (hm:0<m) (h63:n+m<=maxLen) (hbytes:(n+m)*bytes<=140737488355328) (hbase:base<=w.heap.size) (H:Nat) (hH:w.heap.size=H)
  (h:∀ g cap w',w'.ownsRow base e size (.slice (some ⟨g,0,none⟩) (n+m) cap) (n+m) (xs++news)->((v.ownBlock=some g/\w.grownBy w' (some g))\/(g=H/\w.grownBy w' none))->g<w'.heap.size->wpList P ops Q rest (a.put o.dst (.slice (some ⟨g,0,none⟩) (n+m) cap)) w'):wpList P ops Q (o::rest) a w:=by
 refine wpList_plain hgd λK hK=>?_
 obtain⟨g,cap,w',hr,h2,h3,h4⟩:=fG (P:=P) w t o.type base e i z size bytes ht hi hz hsize hby hzs hsz v n xs hown ad m c news hl hnews h1 hm h63 hbytes hbase H hH;unfold Oper.wp execOp;simp only[ho,resolve,invoke,builtin,Sem.run_bind,Sem.run_pure,Result.andThen_ok,map_toArray,map_cons,map_nil,hs,hx,hr];exact hK _ _ (h g cap w' h2 h3 h4)
def Ba (w:World) (e:TypeId) (q n cap:Nat) (xs:List Value):Prop:=xs.length=n/\(∀ j u,xs[j]?=some u->w.cell? ⟨q,j,none⟩=some u)/\(n=cap\/w.ownsRow 0 e 1 (.slice (some ⟨q,0,none⟩) n cap) n xs)
theorem yJ (q j:Nat):(⟨q,0,none⟩:Addr).add j=⟨q,j,none⟩:=by unfold Addr.add;split<;>simp_all
def Ba.of_owns {e:TypeId} (h:w.ownsRow 0 e 1 (.slice (some ⟨q,0,none⟩) n cap) n xs):Ba w e q n cap xs:=
 ⟨by have:=h.1;omega,λj u hu=>by have:=h.cells (g:=q) rfl j u hu;rwa [yJ] at this,.inr h⟩
def pN (t ty:TypeId) (e:TypeId) (i:TypeInfo) (z:Value) (bytes:Nat) (ht:P.underlying t=some (.slice e)) (hi:P.info? e=some i) (hz:i.zero=some z)
  (hsize:i.size=1) (hby:i.bytes=bytes) (hzs:z.cells.size=1) (q n cap:Nat) (xs:List Value) (hl:Ba w e q n cap xs)
  (ad:Addr) (c:Nat) (x:Value) (hx:w.cell? ad=some x) (h1:x.oneCell'=true)
  (h63:n+1<=maxLen) (hbytes:(n+1)*bytes<=140737488355328) :
  ∃ g cap4 w',(Builtin.append_ #[t,t] ty #[.slice (some ⟨q,0,none⟩) n cap,.slice (some ad) 1 c]).run P w=.ok (.slice (some ⟨g,0,none⟩) (n+1) cap4) w' /\
   w'.ownsRow 0 e 1 (.slice (some ⟨g,0,none⟩) (n+1) cap4) (n+1) (xs++[x])/\((some q=some g/\w.grownBy w' (some g))\/(g=w.heap.size/\w.grownBy w' none))/\g<w'.heap.size:=by
 have f:∀ j u,[x][j]?=some u->w.cell? (ad.add j)=some u:=λj u hu=>by
  cases j with
  |zero=>
   simp at hu;subst hu;have:ad.add 0=ad:=by unfold Addr.add;split<;>simp_all
   rw[this];exact hx
  |succ j=>simp at hu
 obtain⟨d,h,s⟩:=hl;rcases s with rfl|ho
 .subst hby;have hr:=run_append_grow (P:=P) w t ty e i z ht hi hz ⟨q,0,none⟩ n n xs (by rw[hsize,d];omega) (λj u hu=>by rw[yJ];exact h j u hu) ad 1 c [x] (by rw[hsize];rfl) f ω (by unfold maxLen at h63;omega) (growslice_fits ω hbytes);refine⟨_,_,_,hr,⟨by simp[d],.inr ⟨w.heap.size,_,_,rfl,Zk _,Za w.drew _,grownCap_ge w _ _ _,grownCap_le_maxLen w _ _ _ h63,?_,?_⟩⟩,.inr ⟨rfl,⟨rfl,rfl,rfl,χ,λk hk _=>pM w.drew _ k hk⟩⟩,χ⟩
  .have:=grownCap_ge w (n+1) n e;simp only[Array.size_append,size_toArray,size_zeroCells,hzs,d,length_singleton];omega
  .simp only[Array.toList_append,append_assoc];rw[<-append_assoc,show(n+1)*1=(xs++[x]).length by simp[d]];exact take_left
 .exact fG w t ty 0 e i z 1 bytes ht hi hz hsize hby hzs ω _ n xs ho ad 1 c [x] rfl f (by simpa using h1) ω h63 hbytes (Zk _) _ rfl
def fH (hgd:o.guard=none) (s x:Operand) (t:TypeId)
  (ho:o.op=.call {callee:=.builtin .append,args:=#[s,x],argTypes:=#[t,t]})
  (e:TypeId) (i:TypeInfo) (z:Value) (bytes:Nat) (ht:P.underlying t=some (.slice e)) (hi:P.info? e=some i) (hz:i.zero=some z)
  (hsize:i.size=1) (hby:i.bytes=bytes) (hzs:z.cells.size=1) (q n cap:Nat) (xs:List Value) (hs:a.eval s=.slice (some ⟨q,0,none⟩) n cap) (hl:Ba w e q n cap xs)
  (ad:Addr) (c:Nat) (y:Value) (hx:a.eval x=.slice (some ad) 1 c) (hy:w.cell? ad=some y) (h1:y.oneCell'=true)
  (h63:n+1<=maxLen) (hbytes:(n+1)*bytes<=140737488355328)
  (h:∀ g d w',w'.ownsRow 0 e 1 (.slice (some ⟨g,0,none⟩) (n+1) d) (n+1) (xs++[y])->((some q=some g/\w.grownBy w' (some g))\/(g=w.heap.size/\w.grownBy w' none))->g<w'.heap.size->wpList P ops Q rest (a.put o.dst (.slice (some ⟨g,0,none⟩) (n+1) d)) w'):wpList P ops Q (o::rest) a w:=by
 refine wpList_plain hgd λK hK=>?_
 obtain⟨g,d,w',hr,h2,h3,h4⟩:=pN (P:=P) w t o.type e i z bytes ht hi hz hsize hby hzs q n cap xs hl ad c y hy h1 h63 hbytes;unfold Oper.wp execOp;simp only[ho,resolve,invoke,builtin,Sem.run_bind,Sem.run_pure,Result.andThen_ok,map_toArray,map_cons,map_nil,hs,hx,hr];exact hK _ _ (h g d w' h2 h3 h4)
end
structure Off (ρ:Nat->Nat) (q lim:Nat) (w w':World):Prop where
 size:w.heap.size<=w'.heap.size
 block:∀ b,b<w.heap.size->ρ b=0->w'.heap[b]?=w.heap[b]?
 part:∀ o,o<lim->w'.cell? ⟨q,o,none⟩=w.cell? ⟨q,o,none⟩
variable (ρ q lim w) in
theorem Off.refl:Off ρ q lim w w:=⟨zq,λ_ _ _=>rfl,λ_ _=>rfl⟩
def Off.comp {ρ ρ':Nat->Nat}{q q' lim lim':Nat}{w w' w'':World} (h1:w.heap.size<=w'.heap.size) (h2:∀ b,b<w.heap.size->ρ b=0->w'.heap[b]?=w.heap[b]?/\ρ' b=0)
  (h3:∀ o,o<lim->w'.cell? ⟨q,o,none⟩=w.cell? ⟨q,o,none⟩/\((q=q'/\o<lim')\/(ρ' q=0/\q<w'.heap.size))) (h:Off ρ' q' lim' w' w''):Off ρ q lim w w'':=by
 refine⟨Zc h1 h.size,λb hb hr=>?_,λo ho=>?_⟩
 .obtain⟨e1,e2⟩:=h2 b hb hr;exact(h.block b (Zd hb h1) e2).trans e1
 .obtain⟨e1,e2⟩:=h3 o ho;rcases e2 with⟨rfl,e2⟩|⟨e2,e3⟩
  .exact(h.part o e2).trans e1
  .refine Eq.trans ?_ e1;have:=h.block q e3 e2;simp[cell?,this]
def Kp (ρ:Nat->Nat) (q lim:Nat) (w:World) (F:World->Prop):Prop:=∀ w',Off ρ q lim w w'->F w'
def Kp.now (h:Kp ρ q lim w F):F w:=h w (Off.refl _ _ _ _)
end Go.Proofs.YtbjabpodkaokjaaGreatDoor
namespace Go.Proofs.YtbjabpodkaokjaaGreatDoor.Sx
variable {r r':List UInt8}{l:Nat}{S:Nat->Bool}{n:Nat}{M D Mo:Int}{C:Bool}{L V Le N v k:Int}{w:World}{b:Bool}{A:Nat->Bool}
structure Md where
 M:Int
 Depth:Int
 Most:Int
 Class:Bool
 Low:Int
 Value:Int
 Least:Int
 N:Int
deriving DecidableEq,Inhabited
def fP (c:Int):Int:=if 48<=c then(if c<=57 then c-48 else if 97<=c then(if c<=102 then c-97+10 else -1) else -1) else -1
def fp:List Int:=[92,46,91,93,40,41,123,125,124,42,43,63,94,36]
def bi (c:Int):Bool:=fp.contains c
def Md.to (m:Md) (k:Int):Md:={m with M:=k}
def Md.byteItem (m:Md) (v:Int):Md:=
 if 0<=m.Low then(if v<m.Low then m.to 16 else {m with Low:=-1,M:=9})
 else {m with Value:=v,M:=8}
def Md.one (m:Md) (v:Int):Md:=if m.Class then m.byteItem v else m.to 2
def Md.escape (m:Md) (c:Int):Md:=
 if bi c||c==45 then m.one c
 else if c==110 then m.one 10
 else if c==116 then m.one 9
 else if c==120 then m.to 4
 else if (c==100||c==119||c==115)&&!m.Class then m.to 2
 else if (c==100||c==119||c==115)&&m.Low<0 then m.to 9
 else m.to 16
def Md.cls (m:Md) (c:Int):Md:=
 if c==94&&m.M==6 then m.to 7
 else if c==92 then {m with Class:=true,M:=3}
 else if c==93&&(m.M==8||m.M==9) then {m with Class:=false,M:=2}
 else if c==45&&m.M==8 then {m with Low:=m.Value,M:=10}
 else if c==91||c==93||c==94||c==45 then m.to 16
 else m.byteItem c
def di (v lo:Int):Bool:=(List.range 31).any λn=>decide (lo<=n)&&(n==v||(decide (0<v)&&(n:Int) / 10==v))
def Md.count (m:Md) (c:Int):Md:=
 let digit:=decide (48<=c)&&decide (c<=57)
 let v:=(if digit then c-48 else 0)+(if m.M==12||m.M==14 then 10*m.N else 0)
 let lo:=if m.M==13||m.M==14 then m.Least else 0
 let fits:=di v lo
 if digit&&fits&&(m.M==11||m.M==13) then {m with N:=v,M:=m.M+1}
 else if digit&&fits&&decide (0<m.N)&&(m.M==12||m.M==14) then {m with N:=v}
 else if c==44&&m.M==12 then {m with Least:=m.N,M:=13}
 else if c==125&&(m.M==12||m.M==13||(m.M==14&&decide (m.Least<=m.N))) then m.to 2
 else m.to 16
def Md.group (m:Md) (c:Int):Md:=
 if c==40 then {m with Depth:=m.Depth+1,Most:=if m.Most<m.Depth+1 then m.Depth+1 else m.Most,M:=1}
 else if m.Depth==0 then m.to 16
 else {m with Depth:=m.Depth-1,M:=2}
def Md.chain (m:Md) (c:Int):Md:=
 if c==94 then(if m.M==0 then m.to 1 else m.to 16)
 else if c==36 then(if m.Depth==0 then m.to 15 else m.to 16)
 else if c==124 then m.to 1
 else if c==40||c==41 then m.group c
 else if c==91 then {m with Low:=-1,M:=6}
 else if c==92 then {m with Class:=false,Low:=-1,M:=3}
 else if c==42||c==43||c==63 then(if m.M==2 then m else m.to 16)
 else if c==123 then(if m.M==2 then m.to 11 else m.to 16)
 else if c==125||c==93 then m.to 16
 else m.to 2
def Md.step (m:Md) (c:Int):Md:=
 if m.M==0||m.M==1||m.M==2 then m.chain c
 else if m.M==3 then m.escape c
 else if m.M==4 then(if fP c<0||16*fP c+15<m.Low then m.to 16 else {m with Value:=fP c,M:=5})
 else if m.M==5 then(if fP c<0||16*m.Value+fP c<m.Low then m.to 16 else m.one (16*m.Value+fP c))
 else if m.M==6||m.M==7||m.M==8||m.M==9 then m.cls c
 else if m.M==10 then(if c==92 then {m with Class:=true,M:=3} else if c==91||c==93||c==94||c==45 then m.to 16 else m.byteItem c)
 else if m.M==11||m.M==12||m.M==13||m.M==14 then m.count c
 else m.to 16
open Go.RowKit
abbrev se (M D Mo:Int) (C:Bool) (L V Le N:Int):Value:=.agg #[.int .i64 M,.int .i64 D,.int .i64 Mo,.bool C,.int .i64 L,.int .i64 V,.int .i64 Le,.int .i64 N]
abbrev mv (m:Md):Value:=se m.M m.Depth m.Most m.Class m.Low m.Value m.Least m.N
def a_ {a b:Bool} (h:a=b):Ending.returned (.bool a)=.returned (.bool b):=by rw[h]
def fe {W w1:World} (hb:Below W.heap.size W w1):(∀ b o,b<W.heap.size->w1.cell? ⟨b,o,none⟩=W.cell? ⟨b,o,none⟩)/\(∀ b o,b<W.heap.size->w1.frozen? ⟨b,o,none⟩=W.frozen? ⟨b,o,none⟩):=
 ⟨λb o h=>hb.cell (p:=⟨b,o,none⟩) h,λb o h=>hb.frozen (p:=⟨b,o,none⟩) h⟩
def uA (c:Int) (w:World) (h0:0<=c) (h1:c<=255) :
  Calls prog 146 #[.int .u8 c] w λe w'=>e=.returned (.int .i64 (fP c))/\w'=w:=by
 unfold fP
 by_cases a:48<=c<;>by_cases b:c<=57<;>by_cases d:97<=c<;>by_cases f:c<=102<;>first|omega|skip
 all_goals
  go_enter func146,ntmps146
  go_wp2
  go_ret
  exact⟨by simp[*],rfl⟩
variable (M D Mo C L V Le N k w) in
def ip:
  Calls prog 149 #[se M D Mo C L V Le N,.int .i64 k] w λe w'=>e=.returned (se k D Mo C L V Le N)/\Below w.heap.size w w':=by
 go_enter func149,ntmps149
 go_wp2
 exact Zb (v:=se k D Mo C L V Le N) (by simp[results,results149,go_sem]) rfl ⟨rfl,ZA.alloc χ _⟩
def ι {P Q U:Prop} (a:Q) (h:U) (k:Q->U->P:=by intro a h;(repeat refine Below.setCell ?_ ψ _);refine Below.trans ?_ (Below.mono a ψ);(repeat refine Below.alloc ?_ ψ _);exact h):P:=k a h
variable (M D Mo C L V Le N v w) in
def jr:
  Calls prog 152 #[se M D Mo C L V Le N,.int .i64 v] w λe w'=>e=.returned (mv (Md.byteItem ⟨M,D,Mo,C,L,V,Le,N⟩ v))/\Below w.heap.size w w':=by
 by_cases h1:0<=L
 .by_cases h2:v<L
  .have e:mv (Md.byteItem ⟨M,D,Mo,C,L,V,Le,N⟩ v)=se 16 D Mo C L V Le N:=by simp[mv,Md.byteItem,Md.to,h1,h2]
   rw[e];clear e
   go_enter func152,ntmps152
   go_wp2_with (go_at_call 149;refine(ip _ _ _ _ _ _ _ _ _ _).mono ?_;rintro e w' ⟨rfl,hb⟩;obtain⟨hc,hf⟩:=fe hb;have hz:=hb.size;simp at hz)
   exact Zb (v:=se 16 D Mo C L V Le N) (by simp[results,results152,go_sem,hc]) rfl ⟨rfl,(ι hb ZB)⟩
  .have e:mv (Md.byteItem ⟨M,D,Mo,C,L,V,Le,N⟩ v)=se 9 D Mo C (-1) V Le N:=by simp[mv,Md.byteItem,h1,h2]
   rw[e];clear e
   go_enter func152,ntmps152
   go_wp2_with (go_at_call 149;refine(ip _ _ _ _ _ _ _ _ _ _).mono ?_;rintro e w' ⟨rfl,hb⟩;obtain⟨hc,hf⟩:=fe hb;have hz:=hb.size;simp at hz)
   exact Zb (v:=se 9 D Mo C (-1) V Le N) (by simp[results,results152,go_sem,hc]) rfl ⟨rfl,(ι hb ZB)⟩
 .have e:mv (Md.byteItem ⟨M,D,Mo,C,L,V,Le,N⟩ v)=se 8 D Mo C L v Le N:=by simp[mv,Md.byteItem,h1]
  rw[e];clear e
  go_enter func152,ntmps152
  go_wp2_with (go_at_call 149;refine(ip _ _ _ _ _ _ _ _ _ _).mono ?_;rintro e w' ⟨rfl,hb⟩;obtain⟨hc,hf⟩:=fe hb;have hz:=hb.size;simp at hz)
  exact Zb (v:=se 8 D Mo C L v Le N) (by simp[results,results152,go_sem,hc]) rfl ⟨rfl,(ι hb ZB)⟩
inductive dN (α:Type) where
 |ok (a:α) (r:List UInt8)
 |bad (r:List UInt8)
def dN.rest {α:Type}:dN α->List UInt8
 |.ok _ r=>r
 |.bad r=>r
structure dw where
 sign:UInt8
 least:Int
 most:Int
deriving DecidableEq,Inhabited
inductive aO where
 |mk (group:List (List aO)) (S:Nat->Bool) (counts:List dw)
abbrev JW:List UInt8:=[92,46,91,93,40,41,123,125,124,42,43,63,94,36]
def lK (c:UInt8):Bool:=JW.contains c
def iT (c:UInt8):Option Nat:=
 if 48<=c.toNat/\c.toNat<=57 then some (c.toNat-48) else if 97<=c.toNat/\c.toNat<=102 then some (c.toNat-87) else none
def bz (least:Nat):List UInt8->dN Nat
 |[]=>.bad []
 |c::t=>match iT c with
  |some v=>if v<least then .bad (c::t) else .ok v t
  |none=>.bad (c::t)
def eG (least:Nat) (r:List UInt8):dN Nat:=
 match bz (least / 16) r with
 |.bad r'=>.bad r'
 |.ok high r'=>match bz ((if least / 16<high then 0 else least)%16) r' with
  |.bad r''=>.bad r''
  |.ok low r''=>.ok (high*16+low) r''
def el (c:UInt8):Option Nat:=
 if lK c||c==45 then some c.toNat else if c==110 then some 10 else if c==116 then some 9 else none
def aE (least:Nat):List UInt8->dN Nat
 |[]=>.bad []
 |c::t=>if c=120 then eG least t else
  match el c with
  |some v=>if v<least then .bad (c::t) else .ok v t
  |none=>.bad (c::t)
def ax (lo hi:Nat) (n:Nat):Bool:=decide (lo<=n)&&decide (n<=hi)
def bK (c:UInt8):Option (Nat->Bool):=
 if c=100 then some (ax 48 57)
 else if c=119 then some (λn=>ax 48 57 n||ax 65 90 n||ax 95 95 n||ax 97 122 n)
 else if c=115 then some (λn=>ax 9 10 n||ax 13 13 n||ax 32 32 n)
 else none
def eo:List UInt8->dN (Nat->Bool)
 |[]=>.bad []
 |c::t=>match bK c with
  |some S=>.ok S t
  |none=>match aE 0 (c::t) with
   |.ok v r=>.ok (ax v v) r
   |.bad r=>.bad r
def aP (least:Nat):List UInt8->dN Nat
 |[]=>.bad []
 |c::t=>if c.toNat<least then .bad (c::t) else if c=92\/c=91\/c=93\/c=94\/c=45 then .bad (c::t) else .ok c.toNat t
def aw (least:Nat):List UInt8->dN Nat
 |92::t=>aE least t
 |r=>aP least r
def dy (low:Nat):List UInt8->dN (Nat->Bool)
 |45::t=>match aw low t with
  |.ok high r=>.ok (ax low high) r
  |.bad r=>.bad r
 |r=>.ok (ax low low) r
def eU:List UInt8->dN (Nat->Bool)
 |92::c::t=>match bK c with
  |some S=>.ok S t
  |none=>match aE 0 (c::t) with
   |.ok low r=>dy low r
   |.bad r=>.bad r
 |r=>match aw 0 r with
  |.ok low r'=>dy low r'
  |.bad r'=>.bad r'
def orS (A B:Nat->Bool) (n:Nat):Bool:=A n||B n
def bd:Nat->(Nat->Bool)->List UInt8->dN (Nat->Bool)
 |0,_,r=>.bad r
 |n+1,A,r=>match eU r with
  |.bad r'=>.bad r'
  |.ok S r'=>match r' with
   |93::t=>.ok (orS A S) t
   |_=>bd n (orS A S) r'
def eH (r:List UInt8):dN (Nat->Bool):=
 match r with
 |94::t=>match bd (t.length+1) (λ_=>false) t with
  |.ok S r'=>.ok (λn=>!S n) r'
  |.bad r'=>.bad r'
 |_=>bd (r.length+1) (λ_=>false) r
def bm (value least:Int):Bool:=
 if 30<value then false else if least<=value then true else if value=0 then false else
 if 30<value*10 then false else if least<=value*10+9 then true else false
def aK (least:Int):Int->Bool->List UInt8->dN Int
 |value,begun,c::t=>
  if 48<=c.toNat/\c.toNat<=57/\¬(begun=true/\value=0)/\bm (value*10+(c.toNat-48)) least=true then aK least (value*10+(c.toNat-48)) true t
  else if begun=true/\least<=value then .ok value (c::t) else .bad (c::t)
 |value,begun,[]=>if begun=true/\least<=value then .ok value [] else .bad []
def dO (r:List UInt8):dN (Int×Int):=
 match aK 0 0 false r with
 |.bad r'=>.bad r'
 |.ok least r'=>match r' with
  |44::125::t=>.ok (least,-1) t
  |44::t=>match aK least 0 false t with
   |.bad r''=>.bad r''
   |.ok most r''=>match r'' with
    |125::t'=>.ok (least,most) t'
    |_=>.bad r''
  |125::t=>.ok (least,least) t
  |_=>.bad r'
def aJ:Nat->List UInt8->dN (List dw)
 |0,r=>.bad r
 |n+1,r=>match r with
  |c::t=>
   if c=42\/c=43\/c=63 then
    match aJ n t with
    |.ok cs r'=>.ok (⟨c,0,0⟩::cs) r'
    |.bad r'=>.bad r'
   else if c=123 then
    match dO t with
    |.bad r'=>.bad r'
    |.ok (a,b) r'=>match aJ n r' with
     |.ok cs r''=>.ok (⟨c,a,b⟩::cs) r''
     |.bad r''=>.bad r''
   else .ok [] r
  |[]=>.ok [] []
def ci:List UInt8->Bool
 |[]=>false
 |c::_=>c==46||c==92||c==91||c==40||!lK c
mutual
def ay:Nat->List UInt8->dN (List (List aO))
 |0,r=>.bad r
 |n+1,r=>match bB n r with
  |.bad r'=>.bad r'
  |.ok c r'=>match r' with
   |124::t=>match ay n t with
    |.ok cs r''=>.ok (c::cs) r''
    |.bad r''=>.bad r''
   |_=>.ok [c] r'
def bB:Nat->List UInt8->dN (List aO)
 |0,r=>.bad r
 |n+1,r=>if ci r then
   match dA n r with
   |.bad r'=>.bad r'
   |.ok p r'=>match bB n r' with
    |.ok ps r''=>.ok (p::ps) r''
    |.bad r''=>.bad r''
  else .ok [] r
def dA:Nat->List UInt8->dN aO
 |0,r=>.bad r
 |n+1,r=>match bV n r with
  |.bad r'=>.bad r'
  |.ok (g,S) r'=>match aJ (r'.length+1) r' with
   |.ok cs r''=>.ok (.mk g S cs) r''
   |.bad r''=>.bad r''
def bV:Nat->List UInt8->dN (List (List aO)×(Nat->Bool))
 |0,r=>.bad r
 |n+1,r=>match r with
  |[]=>.bad []
  |c::t=>
   if c=40 then
    match ay n t with
    |.bad r'=>.bad r'
    |.ok cs r'=>match r' with
     |41::t'=>.ok (cs,λ_=>false) t'
     |_=>.bad r'
   else if c=91 then
    match eH t with
    |.ok S r'=>.ok ([],S) r'
    |.bad r'=>.bad r'
   else if c=92 then
    match eo t with
    |.ok S r'=>.ok ([],S) r'
    |.bad r'=>.bad r'
   else if c=46 then .ok ([],λn=>!ax 10 10 n) t
   else .ok ([],ax c.toNat c.toNat) t
end
mutual
def oy:aO->Nat
 |.mk g _ _=>match g with
  |[]=>0
  |c::cs=>1+max (dM c) (aZ cs)
def dM:List aO->Nat
 |[]=>0
 |p::ps=>max (oy p) (dM ps)
def aZ:List (List aO)->Nat
 |[]=>0
 |c::cs=>max (dM c) (aZ cs)
end
structure sT where
 front:Bool
 back:Bool
 choices:List (List aO)
def Eo (k:Nat) (h:k<14) (h':k<(ByteArray.mk #[92,46,91,93,40,41,123,125,124,42,43,63,94,36]).size) :
  (((ByteArray.mk #[92,46,91,93,40,41,123,125,124,42,43,63,94,36])[k]).toNat:Int)=fp.getD k 0:=by
 have H:∀ i:Fin 14,(((ByteArray.mk #[92,46,91,93,40,41,123,125,124,42,43,63,94,36])[i.val]'(i.isLt)).toNat:Int)=fp.getD i.val 0:=Zr;exact H ⟨k,h⟩
def my (k:Nat) (h:k<14) (c:Int) (e:fp.getD k 0=c):bi c=true:=by
 have H:∀ i:Fin 14,bi (fp.getD i.val 0)=true:=Zr;rw[<-e];exact H ⟨k,h⟩
def oA (c:Int) (h:∀ j,j<14->fp.getD j 0≠c):bi c=false:=by
 have g:=λj (hj:j<14)=>h j hj
 have:=g 0 Zr;have:=g 1 Zr;have:=g 2 Zr;have:=g 3 Zr;have:=g 4 Zr;have:=g 5 Zr;have:=g 6 Zr;have:=g 7 Zr;have:=g 8 Zr;have:=g 9 Zr;have:=g 10 Zr;have:=g 11 Zr;have:=g 12 Zr;have:=g 13 Zr;simp[fp] at *;simp[bi,fp];omega
def Ep (c:Int) (w:World) (h0:0<=c) (h1:c<=255) :
  Calls prog 187 #[.int .u8 c] w λe w'=>e=.returned (.bool (bi c))/\w'=w:=by
 go_enter func187,ntmps187
 go_wp2
 go_loop [4] (λi=>∃ k:Nat,k<=14/\i=.int .i64 k/\∀ j,j<k->fp.getD j 0≠c) (λi=>14-(intOf i).toNat)
 case atStart=>exact⟨0,Zk _,rfl,λj hj=>absurd hj (not_lt_zero _)⟩
 case round=>
  obtain⟨k,hk,rfl,d⟩:=hrel
  by_cases hlt:k<14
  .have f:=Eo k hlt hlt;have HA:=zh f;clear f;go_wp2
   .have hh:((((ByteArray.mk #[92,46,91,93,40,41,123,125,124,42,43,63,94,36])[k]).toNat:Int)==c)=true:=by assumption
    go_ret
    exact⟨a_ (my k hlt c (by rw[<-HA.out];simpa using hh)).symm,rfl⟩
   .go_round
    case rel=>
     have hh:((((ByteArray.mk #[92,46,91,93,40,41,123,125,124,42,43,63,94,36])[k]).toNat:Int)==c)=false:=by assumption
     have:=HA;refine⟨k+1,ω,π,λj hj=>?_⟩
     by_cases e:j=k
     .subst e;rw[<-this];simpa using hh
     .exact d j ω
    case measure=>simp[intOf];omega
  .go_wp2
   go_ret
   exact⟨a_ (oA c (λj hj=>d j ω)).symm,rfl⟩
open Go
def ce {P:Program}{a:Act}{Q:Exit->Act->World->Prop}{c rest:Code} (l:Nat) (J:Act->World->Prop) (μ:Act->World->Nat)
  (hf:findLabel c l=some (Code.skip.seq rest))
  (first:(∀ a w,J a w->rest.wp P (Exit.jump l J Q) a w)->c.wp P (Exit.jump l J Q) a w)
  (pass:∀ a w,J a w->rest.wp P (Exit.jump l (λa' w'=>J a' w'/\μ a' w'<μ a w) Q) a w):(Code.scope c).wp P Q a w:=by
 refine wp_scope_jumps l J μ hf (first λa w hJ=>?_) (λa w hJ=>?_)
 .refine wp_mono (pass a w hJ) ?_;intro e a' w' h
  cases e<;>first|exact h|exact⟨h.1,h.2.1⟩
 .apply wp_seq;apply wp_skip;exact pass a w hJ
def mz {l v:Nat} (h:bz l r=.ok v r'):r'.length<r.length:=by
 match r,h with
 |c::t,h=>
  simp only[bz] at h
  split at h
  .split at h
   .simp at h
   .injection h with _ e;subst e;simp
  .simp at h
def uC {l v:Nat} (h:eG l r=.ok v r'):r'.length<r.length:=by
 simp only[eG] at h
 split at h
 .simp at h
 .rename_i h1
  split at h
  .simp at h
  .rename_i h2;injection h with _ e;subst e;exact Nat.lt_trans (mz h2) (mz h1)
def gQ {l v:Nat} (h:aE l r=.ok v r'):r'.length<r.length:=by
 match r,h with
 |c::t,h=>
  simp only[aE] at h
  split at h
  .have:=uC h;simp;omega
  .split at h
   .split at h
    .simp at h
    .injection h with _ e;subst e;simp
   .simp at h
def pO {l v:Nat} (h:aP l r=.ok v r'):r'.length<r.length:=by
 match r,h with
 |c::t,h=>
  simp only[aP] at h
  split at h
  .simp at h
  .split at h
   .simp at h
   .injection h with _ e;subst e;simp
def lT {l v:Nat} (h:aw l r=.ok v r'):r'.length<r.length:=by
 unfold aw at h
 split at h
 .have:=gQ h;simp;omega
 .exact pO h
def pP (h:dy l r=.ok S r'):r'.length<=r.length:=by
 unfold dy at h
 split at h
 .split at h
  .rename_i h1;injection h with _ e;subst e;have:=lT h1;simp;omega
  .simp at h
 .injection h with _ e;subst e;exact zq
def k_ (h:eU r=.ok S r'):r'.length<r.length:=by
 unfold eU at h
 split at h
 .split at h
  .injection h with _ e;subst e;simp;omega
  .split at h
   .rename_i h1;have:=gQ h1;have:=pP h;simp at *;omega
   .simp at h
 .split at h
  .rename_i h1;have:=lT h1;have:=pP h;omega
  .simp at h
def pQ (h:bd n A r=.ok S r'):r'.length<r.length:=by
 induction n generalizing A r with
 |zero=>simp[bd] at h
 |succ n ih=>
  simp only[bd] at h
  split at h
  .simp at h
  .rename_i h1;have:=k_ h1
   split at h
   .injection h with _ e;subst e;simp at *;omega
   .have:=ih h;omega
def pR (h:eH r=.ok S r'):r'.length<r.length:=by
 unfold eH at h
 split at h
 .split at h
  .rename_i h1;injection h with _ e;subst e;have:=pQ h1;simp;omega
  .simp at h
 .exact pQ h
def oB (h:eo r=.ok S r'):r'.length<r.length:=by
 match r,h with
 |c::t,h=>
  simp only[eo] at h
  split at h
  .injection h with _ e;subst e;simp
  .split at h
   .rename_i h1;injection h with _ e;subst e;exact gQ h1
   .simp at h
def oC {l v:Int}{z:Int} (h:aK l v b r=.ok z r'):r'.length<=r.length:=by
 induction r generalizing v b with
 |nil=>simp only[aK] at h;split at h<;>simp_all
 |cons c t ih=>
  simp only[aK] at h
  split at h
  .have:=ih h;simp;omega
  .split at h
   .injection h with _ e;subst e;exact zq
   .simp at h
def gA {p:Int×Int} (h:dO r=.ok p r'):r'.length<=r.length:=by
 simp only[dO] at h
 split at h
 .simp at h
 .rename_i h1;have:=oC h1
  split at h
  .injection h with _ e;subst e;simp at *;omega
  .split at h
   .simp at h
   .rename_i h2;have:=oC h2
    split at h
    .injection h with _ e;subst e;simp at *;omega
    .simp at h
  .injection h with _ e;subst e;simp at *;omega
  .simp at h
def wh {cs:List dw} (h:aJ n r=.ok cs r'):r'.length<=r.length:=by
 induction n generalizing r cs with
 |zero=>simp[aJ] at h
 |succ n ih=>
  simp only[aJ] at h
  split at h
  .split at h
   .split at h
    .rename_i h1;injection h with _ e;subst e;have:=ih h1;simp;omega
    .simp at h
   .split at h
    .split at h
     .simp at h
     .rename_i h1;have:=gA h1
      split at h
      .rename_i h2;injection h with _ e;subst e;have:=ih h2;simp;omega
      .simp at h
    .injection h with _ e;subst e;exact zq
  .injection h with _ e;subst e;exact zq
def JX (tk:Bool):dN (Nat->Bool)->dN (Nat->Bool)
 |.ok S r=>.ok (if tk then λn=>!S n else S) r
 |.bad r=>.bad r
end Go.Proofs.YtbjabpodkaokjaaGreatDoor.Sx
namespace Go.Proofs.YtbjabpodkaokjaaGreatDoor
open Go.RowKit
variable {v:Value}{zs:List Int}{m:Int}{w:World}
def fY (n m:Int):Bool:=decide (0<=n/\n<m)
def oD (n m:Int) (w:World) :
  Calls prog 134 #[.int .i64 n,.int .i64 m] w λe w'=>e=.returned (.bool (fY n m))/\w'=w:=by
 by_cases h1:0<=n
 .by_cases h2:n<m
  .go_enter func134,ntmps134
   go_wp2
   go_ret
   exact⟨by simp[fY,h1,h2],rfl⟩
  .have f:decide (n<m)=false:=by simpa using h2
   go_enter func134,ntmps134
   go_wp2
   go_ret
   exact⟨by simp[fY,h2],rfl⟩
 .have d:decide (0<=n)=false:=by simpa using h1
  go_enter func134,ntmps134
  go_wp2
  go_ret
  exact⟨by simp[fY];omega,rfl⟩
def jc:Nat->List UInt8->Option Nat
 |n,[]=>some n
 |n,c::t=>if n<c.toNat then none else jc (max n (c.toNat+1)) t
def iG (s:ByteArray):Option Nat:=if s.size=256 then jc 0 s.data.toList else none
theorem pu:∀(l:List UInt8) (n m:Nat),jc n l=some m->n<=m/\m<=max n 256
 |[],n,m,h=>by simp[jc] at h;omega
 |c::t,n,m,h=>by
  simp only[jc] at h
  split at h
  .simp at h
  .have:=pu t _ m h;have:=c.toNat_lt;omega
def nz (s:ByteArray) (hs:s.size<=maxLen) (w:World) :
  Calls prog 135 #[.string s] w λe w'=>e=.returned (.tuple #[.int .i64 ((iG s).getD 0:Nat),.bool (iG s).isSome])/\w'=w:=by
 unfold maxLen at hs
 by_cases h256:s.size=256
 .have hR:iG s=jc 0 s.data.toList:=by simp[iG,h256]
  have HR:=zh hR;have g:((s.size:Int) != 256)=false:=σ;clear hR
  go_enter func135,ntmps135
  go_wp2
  go_loop [4,12] (λc i=>∃ k n:Nat,i=.int .i64 k/\c=.int .i64 n/\k<=256/\n<=256/\jc n (s.data.toList.drop k)=iG s) (λ_ i=>256-(intOf i).toNat)
  case atStart=>exact⟨0,0,rfl,rfl,ω,ω,by rw[HR.out];rfl⟩
  case round=>
   obtain⟨k,n,rfl,rfl,hk,hn,h⟩:=hrel;have HE:=zh h
   by_cases hlt:k<256
   .have f:k<s.size:=ω;have hd:s.data.toList.drop k=s[k]::s.data.toList.drop (k+1):=by
     rw[drop_eq_getElem_cons (by simpa using f)];rfl
    have u:=(s[k]).toNat_lt;have HD:Hid (jc n (s[k]::s.data.toList.drop (k+1))=iG s):=by have:=HE;rwa [hd] at this
    by_cases hgt:n<s[k].toNat
    .have d:(n:Int)<s[k].toNat:=ω;have HN:Hid (iG s=none):=by
      have:=HD;simp only[jc,hgt,if_true] at this;exact this.symm
     go_wp2
     go_ret2
     exact⟨by rw[HN.out];rfl,rfl⟩
    .have d:¬(n:Int)<s[k].toNat:=ω;have HN:Hid (jc (max n (s[k].toNat+1)) (s.data.toList.drop (k+1))=iG s):=by
      have:=HD;simp only[jc,hgt,if_false] at this;exact this
     by_cases hmx:(n:Int)<s[k].toNat+1
     .have HM:Hid (jc (s[k].toNat+1) (s.data.toList.drop (k+1))=iG s):=by
       have:=HN;rwa [Nat.max_eq_right ω] at this
      go_wp2
      go_round
      case rel=>exact⟨k+1,s[k].toNat+1,π,π,ω,ω,HM⟩
      case measure=>simp[intOf]<;>omega
     .have HM:Hid (jc n (s.data.toList.drop (k+1))=iG s):=by
       have:=HN;rwa [Nat.max_eq_left ω] at this
      go_wp2
      go_round
      case rel=>exact⟨k+1,n,π,rfl,ω,ω,HM⟩
      case measure=>simp[intOf]<;>omega
   .have e:k=256:=ω;have HN:Hid (iG s=some n):=by
     have:=HE;rw[e,drop_of_length_le σ] at this;simp only[jc] at this;exact this.symm
    go_wp2
    go_ret2
    exact⟨by rw[HN.out];rfl,rfl⟩
 .have hR:iG s=none:=by simp[iG,h256]
  rw[hR];have g:((s.size:Int) != 256)=true:=σ
  go_enter func135,ntmps135
  go_wp2
  go_ret2
  exact⟨rfl,rfl⟩
def L3 (w:World) (v:Value) (zs:List Int):Prop:=(zs=[]/\∃ a c,v=.slice a 0 c)\/∃ b o c,v=.slice (some ⟨b,o,none⟩) zs.length c/\∀ j (hj:j<zs.length),w.cell? ⟨b,o+j,none⟩=some (.int .i64 zs[j])
variable (v zs m w) in
def sl (hv:L3 w v zs) (hl:zs.length<=maxLen) :
  Calls prog 136 #[v,.int .i64 m] w λe w'=>e=.returned (.bool (zs.all λz=>fY z m))/\w'=w:=by
 unfold maxLen at hl;rcases hv with⟨rfl,a,c,rfl⟩|⟨b,o,c,rfl,hc⟩
 .go_enter func136,ntmps136
  go_wp2
  go_loop [9] (λi=>i=.int .i64 0) (λ_=>0)
  case atStart=>rfl
  case round=>
   obtain rfl:=hrel;go_wp2
   go_ret
   exact⟨rfl,rfl⟩
 .obtain⟨n,hn⟩:=zx zs.length;have HN:=zh hn;have HC:=zh hc;rw[<-hn] at hl ⊢;clear hn hc
  go_enter func136,ntmps136
  go_wp2
  go_loop [9] (λi=>∃ k:Nat,i=.int .i64 k/\k<=n/\(zs.all λz=>fY z m)=((zs.drop k).all λz=>fY z m)) (λi=>n-(intOf i).toNat)
  case atStart=>exact⟨0,rfl,Zk _,rfl⟩
  case round=>
   obtain⟨k,rfl,hk,f⟩:=hrel;have HE:=zh f;clear f
   by_cases hlt:k<n
   .have d:k<zs.length:=by have:=HN.out;omega
    have g:=HC k d;obtain⟨z,hz⟩:=zx (zs[k]);rw[<-hz] at g;have HD:Hid ((zs.all λz=>fY z m)=(fY z m&&(zs.drop (k+1)).all λz=>fY z m)):=by
     show _=_;have:=HE.out;rw[drop_eq_getElem_cons d,<-hz] at this;simpa only [all_cons] using this
    clear hz
    by_cases h1:0<=z
    .by_cases h2:z<m
     .have HQ:Hid (fY z m=true):=by show _=_;simp[fY,h1,h2]
      go_wp2
      go_round
      case rel=>exact⟨k+1,π,ω,by rw[HD.out,HQ.out];rfl⟩
      case measure=>simp[intOf]<;>omega
     .have HQ:Hid (fY z m=false):=by show _=_;simp[fY,h2]
      go_wp2
      go_ret
      exact⟨by rw[HD.out,HQ.out];rfl,rfl⟩
    .have HQ:Hid (fY z m=false):=by show _=_;simp[fY];omega
     go_wp2
     go_ret
     exact⟨by rw[HD.out,HQ.out];rfl,rfl⟩
   .have e:k=zs.length:=by have:=HN.out;omega
    have HF:Hid ((zs.all λz=>fY z m)=true):=by
     show _=_;rw[HE.out,e];simp
    go_wp2
    go_ret
    exact⟨by rw[HF.out];rfl,rfl⟩
structure Tb where
 front:Bool
 back:Bool
 start:Int
 cls:List UInt8
 acc:List Bool
 next:List (List Int)
end Go.Proofs.YtbjabpodkaokjaaGreatDoor
namespace Go.Proofs.YtbjabpodkaokjaaGreatDoor.Sx
variable {r:List UInt8}{c:UInt8}{k:Int}{l t r':List UInt8}{sec begun:Bool}{value least M D Mo:Int}{C:Bool}{L V Le N v:Int}{w:World}{e p:Int}{r1:List UInt8}{j:Nat}
def eV (g:List (List aO)):Nat:=match g with|[]=>0|c::cs=>1+aZ (c::cs)
theorem pS (g:List (List aO)) (B:Nat->Bool) (cs:List dw):oy (.mk g B cs)=eV g:=by
 cases g with
 |nil=>simp[oy,eV]
 |cons c cs'=>simp[oy,eV,aZ]
def Er (g:List (List aO)):eV g<=1+aZ g:=by cases g<;>simp[eV]
def Cr (n:Nat) :
  (∀ r cs r',ay n r=.ok cs r'->aZ cs+r'.length<=r.length) /\
  (∀ r ps r',bB n r=.ok ps r'->dM ps+r'.length<=r.length) /\
  (∀ r p r',dA n r=.ok p r'->oy p+r'.length+1<=r.length) /\
  (∀ r g B r',bV n r=.ok (g,B) r'->eV g+r'.length+1<=r.length):=by
 induction n with
 |zero=>exact⟨λr cs r' h=>by simp[ay] at h,λr cs r' h=>by simp[bB] at h,λr cs r' h=>by simp[dA] at h,λr g B r' h=>by simp[bV] at h⟩
 |succ n ih=>
  obtain⟨i1,i2,i3,i4⟩:=ih;refine⟨λr cs r' h=>?_,λr ps r' h=>?_,λr p r' h=>?_,λr g B r' h=>?_⟩
  .simp only[ay] at h
   split at h
   .simp at h
   .rename_i c r1 h1;have l1:=i2 _ _ _ h1
    split at h
    .split at h
     .rename_i h2;injection h with e1 e2;subst e1;subst e2;have l2:=i1 _ _ _ h2;simp[aZ] at *;omega
     .simp at h
    .injection h with e1 e2;subst e1;subst e2;simp[aZ];omega
  .simp only[bB] at h
   split at h
   .split at h
    .simp at h
    .rename_i h1;have l1:=i3 _ _ _ h1
     split at h
     .rename_i h2;injection h with e1 e2;subst e1;subst e2;have l2:=i2 _ _ _ h2;simp[dM];omega
     .simp at h
   .injection h with e1 e2;subst e1;subst e2;simp[dM]
  .simp only[dA] at h
   split at h
   .simp at h
   .rename_i g S r1 h1;have l1:=i4 _ _ _ _ h1
    split at h
    .rename_i h2;injection h with e1 e2;subst e1;subst e2;have l2:=wh h2;rw[pS];omega
    .simp at h
  .simp only[bV] at h
   match r,h with
   |c::t,h=>
    simp only at h
    split at h
    .split at h
     .simp at h
     .rename_i d r1 h1;have l1:=i1 _ _ _ h1
      split at h
      .injection h with e1 e2;injection e1 with e1 _;subst e1;subst e2;have:=Er d;simp at *;omega
      .simp at h
    .split at h
     .split at h
      .rename_i h1;injection h with e1 e2;injection e1 with e1 _;subst e1;subst e2;have:=pR h1;simp[eV];omega
      .simp at h
     .split at h
      .split at h
       .rename_i h1;injection h with e1 e2;injection e1 with e1 _;subst e1;subst e2;have:=oB h1;simp[eV];omega
       .simp at h
      .split at h
       .injection h with e1 e2;injection e1 with e1 _;subst e1;subst e2;simp[eV]
       .injection h with e1 e2;injection e1 with e1 _;subst e1;subst e2;simp[eV]
open Go
def jQ {P:Program}{ops:Array Oper}{o:Oper}{a:Act}{K:Act->World->Prop}{Q:Exit->Act->World->Prop}{E:Prop}
  (hg:o.guard=none) (s x:Operand) (t:TypeId) (hop:o.op=Op.call {callee:=Callee.builtin Builtin.append,args:=#[s,x],argTypes:=#[t,t]})
  (base:Nat) (e:TypeId) (i:TypeInfo) (z:Value) (size bytes:Nat) (h1:P.underlying t=some (.slice e)) (h2:P.info? e=some i) (h3:i.zero=some z) (h4:i.size=size) (h5:i.bytes=bytes) (h6:z.cells.size=size) (h7:0<size)
  (v:Value) (n:Nat) (xs:List Value) (hs:a.eval s=v) (hown:w.ownsRow base e size v n xs)
  (ad:Addr) (m c:Nat) (news:List Value) (hx:a.eval x=.slice (some ad) m c) (hn:news.length=m*size) (hc:∀ j u,news[j]?=some u->w.cell? (ad.add j)=some u) (h1c:∀ u∈news,u.oneCell'=true)
  (b1:n+m<=maxLen) (b2:(n+m)*bytes<=140737488355328) (hb:base<=w.heap.size)
  (hK:∀ v' w',w'.ownsRow base e size v' (n+m) (xs++news)->w.grownBy w' v.ownBlock->(v'.ownBlock=v.ownBlock\/v'.ownBlock=some w.heap.size)->K (a.put o.dst v') w') :
  if Region.wanted o (yielded ops a.tmps)=true then Oper.wp P o a w K Q else E:=by
 have hw:Region.wanted o (yielded ops a.tmps)=true:=by simp[Region.wanted,hg]
 rw[Zi hw];obtain⟨v',w',d,r1,r2,_,r4⟩:=run_append_own_at (P:=P) w base t o.type e i z size bytes h1 h2 h3 h4 h5 h6 h7 v n xs hown ad m c news hn hc h1c b1 b2 hb;unfold Oper.wp;simp[execOp,hop,resolve,invoke,builtin,hs,hx,d,Result.andThen];exact hK v' w' r1 r2 r4
open Go.RowKit
variable (M D Mo C L V Le N v w) in
def Bb:
  Calls prog 150 #[se M D Mo C L V Le N,.int .i64 v] w λe w'=>e=.returned (mv (Md.one ⟨M,D,Mo,C,L,V,Le,N⟩ v))/\Below w.heap.size w w':=by
 cases C
 .have e:mv (Md.one ⟨M,D,Mo,false,L,V,Le,N⟩ v)=se 2 D Mo false L V Le N:=by simp[mv,Md.one,Md.to]
  rw[e]
  go_enter func150,ntmps150
  go_wp2_with (go_at_call 149;refine(ip _ _ _ _ _ _ _ _ _ _).mono ?_;rintro e w' ⟨rfl,hb⟩;obtain⟨hc,hf⟩:=fe hb;have hz:=hb.size;simp at hz)
  exact Zb (v:=se 2 D Mo false L V Le N) (by simp[results,results150,go_sem,hc]) rfl ⟨rfl,(ι hb ZB)⟩
 .have e:mv (Md.one ⟨M,D,Mo,true,L,V,Le,N⟩ v)=mv (Md.byteItem ⟨M,D,Mo,true,L,V,Le,N⟩ v):=by simp[mv,Md.one]
  rw[e]
  go_enter func150,ntmps150
  go_wp2_with (go_at_call 152;refine(jr _ _ _ _ _ _ _ _ _ _).mono ?_;rintro e w' ⟨rfl,hb⟩;obtain⟨hc,hf⟩:=fe hb;have hz:=hb.size;simp at hz)
  exact Zb (v:=mv (Md.byteItem ⟨M,D,Mo,true,L,V,Le,N⟩ v)) (by simp[results,results150,go_sem,hc]) rfl ⟨rfl,(ι hb ZB)⟩
def yK:bi 100=false/\bi 119=false/\bi 115=false/\bi 110=false/\bi 116=false/\bi 120=false:=Zr
def yL (M D Mo:Int) (C:Bool) (L V Le N c:Int) (w:World) (g0:0<=c) (g1:c<=255) :
  Calls prog 148 #[se M D Mo C L V Le N,.int .u8 c] w λe w'=>e=.returned (mv (Md.escape ⟨M,D,Mo,C,L,V,Le,N⟩ c))/\Below w.heap.size w w':=by
 have hs:∀ w,Calls prog 187 #[.int .u8 c] w λe w'=>e=.returned (.bool (bi c))/\w'=w:=λw=>Ep c w g0 g1
 obtain⟨R,hR⟩:=zx (Md.escape ⟨M,D,Mo,C,L,V,Le,N⟩ c);rw[<-hR];have HR:=zh hR;clear hR;obtain⟨b,d⟩:=zx (bi c);rw[<-d] at hs;have HB:=zh d;clear d
 go_enter func148,ntmps148
 go_wp2_with (first|(go_at_call 187;refine(hs _).mono ?_;rintro e w' ⟨rfl,rfl⟩)|(go_at_call 149;refine(ip _ _ _ _ _ _ _ _ _ _).mono ?_;rintro e w' ⟨rfl,hb⟩;obtain⟨hc,hf⟩:=fe hb;have hz:=hb.size;simp at hz)|(go_at_call 150;refine(Bb _ _ _ _ _ _ _ _ _ _).mono ?_;rintro e w' ⟨rfl,hb⟩;obtain⟨hc,hf⟩:=fe hb;have hz:=hb.size;simp at hz))
 all_goals
  have f:=HB.symm;have hR:=HR;clear HR HB hs
  go_light
  refine Zb (v:=mv R) ?_ rfl ⟨rfl,(ι hb ZB)⟩;subst hR
  by_cases hL:L<0<;>first|(exfalso;omega)|simp[results,results148,go_sem,Md.escape,Md.to,yK, *]
def pT (v lo:Int) (k:Nat) (h:k<=30) (h1:lo<=k) (h2:(k:Int)=v\/(0<v/\(k:Int) / 10=v)):di v lo=true:=by
 simp only[di,any_eq_true,mem_range];refine⟨k,ω,?_⟩;rcases h2 with h2|⟨h2,h3⟩
 .simp[h2];omega
 .simp[h1,h2,h3]
def wj (v lo:Int) (h:∀ j:Nat,lo<=j->j<31->¬((j:Int)=v\/(0<v/\(j:Int) / 10=v))):di v lo=false:=by
 rw[Bool.eq_false_iff];intro hh;simp only[di,any_eq_true,mem_range,Bool.and_eq_true,decide_eq_true_eq,Bool.or_eq_true,beq_iff_eq] at hh;obtain⟨j,hj,hl,hr⟩:=hh;exact h j hl hj hr
def oE (v lo:Int) (w:World) (l0:0<=lo) (l1:lo<=30) (v0:0<=v) (v1:v<=1000) :
  Calls prog 188 #[.int .i64 v,.int .i64 lo] w λe w'=>e=.returned (.bool (di v lo))/\w'=w:=by
 go_enter func188,ntmps188
 go_wp2
 go_loop [5] (λi=>∃ k:Nat,k<=31/\lo<=k/\i=.int .i64 k/\∀ j:Nat,lo<=j->j<k->¬((j:Int)=v\/(0<v/\(j:Int) / 10=v))) (λi=>31-(intOf i).toNat)
 case atStart=>exact⟨lo.toNat,ω,ω,by congr 1;omega,λj hj hk=>ω⟩
 case round=>
  obtain⟨k,hk,hl,rfl,g⟩:=hrel;have f:=zh g
  by_cases hlt:k<=30
  .by_cases a:(k:Int)=v
   .have a':((k:Int)==v)=true:=by simpa using a
    go_wp2
    go_ret
    exact⟨a_ (pT v lo k hlt hl (.inl a)).symm,rfl⟩
   .have a':((k:Int)==v)=false:=by simpa using a
    by_cases b:0<v
    .by_cases d:(k:Int) / 10=v
     .have d':((k:Int) / 10==v)=true:=by simpa using d
      have D':=zh d;go_wp2
      go_ret
      exact⟨a_ (pT v lo k hlt hl (.inr ⟨b,D'⟩)).symm,rfl⟩
     .have d':((k:Int) / 10==v)=false:=by simpa using d
      go_wp2
      go_round
      case rel=>
       refine⟨k+1,ω,ω,π,λj hj hk'=>?_⟩
       by_cases e:j=k
       .subst e;omega
       .exact f j hj ω
      case measure=>simp[intOf];omega
    .go_wp2
     go_round
     case rel=>
      refine⟨k+1,ω,ω,π,λj hj hk'=>?_⟩
      by_cases e:j=k
      .subst e;omega
      .exact f j hj ω
     case measure=>simp[intOf];omega
  .go_wp2
   go_ret
   exact⟨a_ (wj v lo (λj hj hk'=>f j hj ω)).symm,rfl⟩
def Md.init:Md:=⟨0,0,0,false,-1,0,0,0⟩
def runAll (m:Md) (l:List UInt8):Md:=l.foldl (λm c=>m.step c.toNat) m
structure Md.Ok (k:Int) (m:Md):Prop where
 m0:0<=m.M
 m1:m.M<=16
 d0:0<=m.Depth
 d1:m.Depth<=k
 o0:0<=m.Most
 o1:m.Most<=k
 v0:0<=m.Value
 v1:m.Value<=255
 e0:0<=m.Least
 e1:m.Least<=30
 n0:0<=m.N
 n1:m.N<=30
 x5:m.M=5->m.Value<=15
def Md.Ok_init:Md.Ok 0 Md.init:=by constructor<;>simp[Md.init]
def pU (v lo:Int) (h:di v lo=true):v<=30:=by
 simp only[di,any_eq_true,mem_range,Bool.and_eq_true,decide_eq_true_eq,Bool.or_eq_true,beq_iff_eq] at h;obtain⟨j,hj,hl,hr⟩:=h;omega
def Es (c:Int):-1<=fP c/\fP c<=15:=by unfold fP;(repeat' split)<;>omega
theorem Md.Ok.to {m:Md} (h:Md.Ok k m) (j:Int) (hj:0<=j) (hj':j<=16) (hj5:j≠5) (k':Int) (hk:k<=k'):Md.Ok k' (m.to j):=by
 obtain⟨a,b,c,d,e,f,g,i,l,n,o,p,x5⟩:=h
 constructor<;>simp[Md.to]<;>omega
theorem Md.Ok.byteItem {m:Md} (h:Md.Ok k m) (v:Int) (g0:0<=v) (g1:v<=255) (k':Int) (hk:k<=k'):Md.Ok k' (m.byteItem v):=by
 unfold Md.byteItem;have h':=h;obtain⟨a,b,c,d,e,f,g,i,l,n,o,p,x5⟩:=h
 split
 .split
  .exact h'.to 16 ω ω ω k' hk
  .constructor<;>(try simp)<;>omega
 .constructor<;>(try simp)<;>omega
theorem Md.Ok.one {m:Md} (h:Md.Ok k m) (v:Int) (g0:0<=v) (g1:v<=255) (k':Int) (hk:k<=k'):Md.Ok k' (m.one v):=by
 unfold Md.one
 split
 .exact h.byteItem v g0 g1 k' hk
 .exact h.to 2 ω ω ω k' hk
theorem Md.Ok.escape {m:Md} (h:Md.Ok k m) (c:Int) (g0:0<=c) (g1:c<=255) (k':Int) (hk:k<=k'):Md.Ok k' (m.escape c):=by
 unfold Md.escape
 (repeat' split)<;>first|exact h.one _ ω ω k' hk|exact h.to _ ω ω ω k' hk
theorem Md.Ok.cls {m:Md} (h:Md.Ok k m) (c:Int) (g0:0<=c) (g1:c<=255) (k':Int) (hk:k<=k'):Md.Ok k' (m.cls c):=by
 unfold Md.cls;have h':=h;obtain⟨a,b,c,d,e,f,g,i,l,n,o,p,x5⟩:=h
 (repeat' split)<;>first|exact h'.byteItem _ ω ω k' hk|exact h'.to _ ω ω ω k' hk|(constructor<;>(try simp)<;>omega)
theorem Md.Ok.count {m:Md} (h:Md.Ok k m) (c:Int) (g0:0<=c) (g1:c<=255) (k':Int) (hk:k<=k') (hm:11<=m.M) (hm':m.M<=14):Md.Ok k' (m.count c):=by
 unfold Md.count;have h':=h;obtain⟨a,b,c',d,e,f,g,i,l,n,o,p,x5⟩:=h
 extract_lets digit v lo fits
 have hv:0<=v:=by
  simp only[v,digit]
  split<;>split<;>rename_i q _<;>simp at q<;>omega
 split
 .rename_i q;simp at q;have:=pU _ _ q.1.2
  constructor<;>(try simp)<;>omega
 split
 .rename_i q;simp at q;have:=pU _ _ q.1.1.2
  constructor<;>(try simp)<;>omega
 (repeat' split)<;>first|exact h'.to _ ω ω ω k' hk|(constructor<;>(try simp)<;>omega)
theorem Md.Ok.group {m:Md} (h:Md.Ok k m) (c:Int) (k':Int) (hk:k+1<=k'):Md.Ok k' (m.group c):=by
 have h':=h;obtain⟨a,b,c',d,e,f,g,i,l,n,o,p,x5⟩:=h
 by_cases q:c=40
 .by_cases q2:m.Most<m.Depth+1
  .simp only[Md.group,q,beq_self_eq_true,if_true,q2]
   constructor<;>dsimp only<;>omega
  .simp only[Md.group,q,beq_self_eq_true,if_true,q2]
   constructor<;>dsimp only<;>(try simp)<;>omega
 .by_cases q2:m.Depth=0
  .simp only[Md.group,q2,beq_self_eq_true,if_true];simp only[beq_iff_eq,q,if_false];exact h'.to 16 ω ω ω k' ω
  .simp only[Md.group,beq_iff_eq,q,q2,if_false]
   constructor<;>dsimp only<;>omega
theorem Md.Ok.chain {m:Md} (h:Md.Ok k m) (c:Int) (k':Int) (hk:k+1<=k'):Md.Ok k' (m.chain c):=by
 unfold Md.chain;have h':=h;obtain⟨a,b,c',d,e,f,g,i,l,n,o,p,x5⟩:=h
 (repeat' split)<;>first|exact h'.group _ k' hk|exact h'.to _ ω ω ω k' ω|(constructor<;>(try simp)<;>omega)
theorem Md.Ok.step {m:Md} (h:Md.Ok k m) (c:Int) (g0:0<=c) (g1:c<=255) (k':Int) (hk:k+1<=k'):Md.Ok k' (m.step c):=by
 unfold Md.step;have h':=h;have hx:=Es c;obtain⟨a,b,c',d,e,f,g,i,l,n,o,p,x5⟩:=h
 split
 .exact h'.chain _ k' hk
 split
 .exact h'.escape _ g0 g1 k' ω
 split
 .split
  .exact h'.to _ ω ω ω k' ω
  .rename_i q;simp at q;constructor<;>(try simp)<;>omega
 split
 .split
  .exact h'.to _ ω ω ω k' ω
  .rename_i q0 q;simp at q;have:=x5 (by simpa using q0);exact h'.one _ ω ω k' ω
 split
 .exact h'.cls _ g0 g1 k' ω
 split
 ·(repeat' split)<;>first|exact h'.to _ ω ω ω k' ω|exact h'.byteItem _ g0 g1 k' ω|(constructor<;>(try simp)<;>omega)
 split
 .rename_i q;exact h'.count _ g0 g1 k' ω (by simp at q;omega) (by simp at q;omega)
 .exact h'.to _ ω ω ω k' ω
theorem Md.Ok.runAll:∀ {m:Md} (_:Md.Ok k m) (l:List UInt8),Md.Ok (k+l.length) (runAll m l):=by
 intro m h l
 induction l generalizing m k with
 |nil=>simpa [Sx.runAll] using h
 |cons c r ih=>
  have:=ih (h.step c.toNat ω (η c.toNat_lt) (k+1) ω);simp only[length_cons,Sx.runAll,foldl_cons] at this ⊢;have e:k+1+(r.length:Int)=k+((r.length+1:Nat):Int):=ω;rw[<-e];exact this
theorem kc (m:Md) (l:List UInt8) (c:UInt8):runAll m (l++[c])=(runAll m l).step c.toNat:=by simp[runAll]
def wk (m:Md) (c:Int) (h:m.M=16):(m.step c).M=16:=by simp[Md.step,h,Md.to]
def go (m:Md) (l:List UInt8) (h:m.M=16):(runAll m l).M=16:=by
 induction l generalizing m with
 |nil=>simpa [runAll] using h
 |cons c r ih=>simp only[runAll,foldl_cons];exact ih _ (wk m _ h)
def kd (l:List UInt8) (i:Nat):Prop:=i<l.length/\(runAll Md.init (l.take (i+1))).M=16/\(runAll Md.init (l.take i)).M≠16
def LT (l:List UInt8) (e p:Int):Prop:=
 (200<l.length/\e=4/\p=0) \/
 (l.length<=200/\∃ i,kd l i/\e=3/\p=i) \/
 (l.length<=200/\(runAll Md.init l).M≠16/\(0<(runAll Md.init l).Depth\/((runAll Md.init l).M≠0/\(runAll Md.init l).M≠1/\(runAll Md.init l).M≠2/\(runAll Md.init l).M≠15))/\e=3/\p=l.length) \/
 (l.length<=200/\(runAll Md.init l).Depth=0/\((runAll Md.init l).M=0\/(runAll Md.init l).M=1\/(runAll Md.init l).M=2\/(runAll Md.init l).M=15)/\20<(runAll Md.init l).Most/\e=4/\p=0) \/
 (l.length<=200/\(runAll Md.init l).Depth=0/\((runAll Md.init l).M=0\/(runAll Md.init l).M=1\/(runAll Md.init l).M=2\/(runAll Md.init l).M=15)/\(runAll Md.init l).Most<=20/\e=0/\p=0)
def Goes (m:Md) (r:List UInt8) (m':Md) (r':List UInt8):Prop:=∃ u,r=u++r'/\runAll m u=m'
theorem Goes.refl (m:Md) (r:List UInt8):Goes m r m r:=⟨[],rfl,rfl⟩
def Goes.trans {m m1 m2:Md}{r r1 r2:List UInt8} (h:Goes m r m1 r1) (g:Goes m1 r1 m2 r2):Goes m r m2 r2:=by
 obtain⟨u,rfl,rfl⟩:=h;obtain⟨v,rfl,rfl⟩:=g;exact⟨u++v,χ,by simp[runAll]⟩
theorem Goes.step {m m':Md} (g:Goes (m.step c.toNat) t m' r'):Goes m (c::t) m' r':=by
 obtain⟨v,rfl,rfl⟩:=g;exact⟨c::v,rfl,rfl⟩
theorem Goes.one (m:Md) (c:UInt8) (t:List UInt8):Goes m (c::t) (m.step c.toNat) t:=Goes.step (Goes.refl _ _)
def aj (m:Md) (r r':List UInt8):Prop:=∃ m',Goes m r m' r'/\m'.M≠16/\match r' with
 |[]=>0<m'.Depth\/(m'.M≠0/\m'.M≠1/\m'.M≠2/\m'.M≠15)
 |c::_=>(m'.step c.toNat).M=16
def aj.after {m m1:Md} (g:Goes m r m1 r1) (h:aj m1 r1 r'):aj m r r':=by
 obtain⟨m',h1,h2⟩:=h;exact⟨m',g.trans h1,h2⟩
def aj.nil {m:Md} (h:3<=m.M) (h':m.M<=14):aj m [] []:=⟨m,Goes.refl _ _,ω,.inr ω⟩
theorem aj.cons {m:Md} (h:m.M≠16) (hc:(m.step c.toNat).M=16):aj m (c::t) (c::t):=⟨m,Goes.refl _ _,h,hc⟩
def Sm (m m':Md):Prop:=m'.Depth=m.Depth/\m'.Most=m.Most
def sU {v:Nat} (h:iT c=some v):fP c.toNat=v/\v<=15:=by grind [iT,fP]
def sW (h:iT c=none):fP c.toNat=-1:=by grind [iT,fP]
theorem Bc (c:UInt8):bi (c.toNat:Int)=lK c:=by
 have:∀ n:Nat,n<256->bi (n:Int)=lK (UInt8.ofNat n):=Zr;have h:=this c.toNat c.toNat_lt
 rwa [UInt8.ofNat_toNat] at h
def After (m:Md) (v:Nat) (m':Md):Prop:=Sm m m' /\
 (m.Class=false->m'.M=2) /\
 (m.Class=true->m.Low<0->m'.M=8/\m'.Low=m.Low/\m'.Value=v) /\
 (m.Class=true->0<=m.Low->m'.M=9/\m'.Low=-1)
def sX (m:Md) (v:Nat) (h:m.Class=true->0<=m.Low->m.Low<=v):After m v (m.one v):=by
 cases hc:m.Class with
 |false=>simp[After,Md.one,hc,Sm,Md.to]
 |true=>
  by_cases h0:0<=m.Low
  .have:=h hc h0;have h1:¬(v:Int)<m.Low:=ω;simp[After,Md.one,hc,Md.byteItem,h0,h1,Sm]
  .simp[After,Md.one,hc,Md.byteItem,h0,Sm]
def yM (m:Md) (v:Nat) (hc:m.Class=true) (h0:0<=m.Low) (h:(v:Int)<m.Low):(m.one v).M=16:=by grind [Md.one,Md.byteItem,Md.to]
def Bd (m:Md) (least:Nat):Prop:=(m.Low<0/\least=0)\/(m.Low=least)
def Bd.le {m:Md}{l:Nat} (h:Bd m l) (v:Nat) (hv:l<=v):m.Low<=v:=by rcases h with h|h<;>omega
def oF (m:Md) (r:List UInt8):dN Nat->Prop
 |.ok v r'=>∃ m',Goes m r m' r'/\After m v m'/\v<=255
 |.bad r'=>aj m r r'
def wl (m:Md) (l:Nat) (r:List UInt8) (hm:m.M=4) (hb:Bd m l) (hl:l<=255):oF m r (eG l r):=by
 unfold eG
 match r with
 |[]=>simp only[bz,oF];exact aj.nil ω ω
 |c::t=>
  have f:∀ x,m.step x=if fP x<0||16*fP x+15<m.Low then m.to 16 else {m with Value:=fP x,M:=5}:=by intro x;simp[Md.step,hm]
  cases hc:iT c with
  |none=>
   have:=sW hc;simp only[bz,hc,oF];exact aj.cons ω (by rw[f,this];simp[Md.to])
  |some v=>
   obtain⟨hv,u⟩:=sU hc;simp only[bz,hc]
   by_cases hlt:v<l / 16
   .rw[Zi hlt];refine aj.cons ω ?_;rw[f,hv,Zi (by rcases hb with hb|hb<;>simp<;>omega)];simp[Md.to]
   .rw[Zh hlt];have e1:m.step c.toNat={m with Value:=v,M:=5}:=by
     rw[f,hv,if_neg];rcases hb with hb|hb<;>simp<;>omega
    have d:∀ x,({m with Value:=(v:Int),M:=5}:Md).step x=if fP x<0||16*(v:Int)+fP x<m.Low then({m with Value:=(v:Int),M:=5}:Md).to 16 else({m with Value:=(v:Int),M:=5}:Md).one (16*v+fP x):=by grind [Md.step]
    have g1:Goes m (c::t) {m with Value:=v,M:=5} t:=by rw[<-e1];exact Goes.one _ _ _
    match t with
    |[]=>simp only[oF];exact aj.after g1 (aj.nil χ χ)
    |c2::t2=>
     cases hc2:iT c2 with
     |none=>
      have:=sW hc2;simp only[hc2,oF];exact aj.after g1 (aj.cons χ (by rw[d,this];simp[Md.to]))
     |some v2=>
      obtain⟨g,s⟩:=sU hc2;simp only[hc2]
      by_cases hlt2:v2<(if l / 16<v then 0 else l)%16
      .rw[Zi hlt2];refine aj.after g1 (aj.cons χ ?_);rw[d,g,if_pos]
       .simp[Md.to]
       .split at hlt2<;>rcases hb with hb|hb<;>simp<;>omega
      .rw[Zh hlt2];have h:l<=v*16+v2:=by split at hlt2<;>omega
       have e2:({m with Value:=(v:Int),M:=5}:Md).step c2.toNat=({m with Value:=(v:Int),M:=5}:Md).one ((v*16+v2:Nat):Int):=by
        rw[d,g,if_neg]
        .congr 1;omega
        .have:=hb.le _ h
         simp;omega
       refine⟨_,g1.trans (Goes.one _ _ _),?_,ω⟩;rw[e2];exact sX {m with Value:=(v:Int),M:=5} _ (λ_ _=>hb.le _ h)
theorem js (c:UInt8):(bK c=none/\¬(c.toNat=100\/c.toNat=119\/c.toNat=115))\/((∃ S,bK c=some S)/\(c.toNat=100\/c.toNat=119\/c.toNat=115)):=by
 unfold bK
 by_cases h1:c=100
 .simp_all
 .by_cases h2:c=119
  .simp_all
  .by_cases h3:c=115
   .simp_all
   .left;rw[Zh h1,Zh h2,Zh h3]
    refine⟨rfl,?_⟩;rintro(h|h|h)
    .exact h1 (UInt8.toNat_inj.mp h)
    .exact h2 (UInt8.toNat_inj.mp h)
    .exact h3 (UInt8.toNat_inj.mp h)
def fJ {k:UInt8} (h:c≠k):c.toNat≠k.toNat:=λe=>h (UInt8.toNat_inj.mp e)
def nC (m:Md) (c:UInt8) (h3:m.M=3):m.step c.toNat=m.escape c.toNat:=by simp[Md.step,h3]
def kg (m:Md) (l:Nat) (r:List UInt8) (hm:m.M=3) (hb:Bd m l) (hl:l<=255) (hcl:m.Class=false->m.Low<0) (hs:(∀ c t,r=c::t->bK c=none)\/(m.Class=true/\0<=m.Low)):oF m r (aE l r):=by
 match r with
 |[]=>simp only[aE,oF];exact aj.nil ω ω
 |c::t=>
  have d:=nC m c hm;have x:=c.toNat_lt;simp only[aE]
  by_cases hx:c=120
  .rw[Zi hx];have e:m.step c.toNat=m.to 4:=by
    rw[d];subst hx;simp[Md.escape,show bi 120=false by decide]
   have h4:=wl (m.to 4) l t rfl hb hl;have g1:Goes m (c::t) (m.to 4) t:=by rw[<-e];exact Goes.one _ _ _
   cases hR:eG l t with
   |bad r'=>rw[hR] at h4;exact aj.after g1 h4
   |ok v r'=>
    rw[hR] at h4;obtain⟨m',g2,ha,hv⟩:=h4;exact⟨m',g1.trans g2,ha,hv⟩
  .rw[Zh hx];have g:=fJ hx;simp at g;have step:∀ v:Nat,v<=255->m.step c.toNat=m.one v->oF m (c::t) (if v<l then .bad (c::t) else .ok v t):=by
    intro v hv e
    by_cases hvl:v<l
    .rw[Zi hvl];have h0:m.Low=l:=by rcases hb with hb|hb<;>omega
     have hc:m.Class=true:=by grind
     exact aj.cons ω (by rw[e];exact yM m v hc ω ω)
    .rw[Zh hvl];refine⟨_,Goes.one _ _ _,?_,hv⟩;rw[e];exact sX m v (λ_ _=>hb.le v ω)
   unfold el
   by_cases h1:(lK c||c==45)=true
   .rw[Zi h1];have e:m.step c.toNat=m.one c.toNat:=by
     rw[d];unfold Md.escape;rw[if_pos];rw[Bc];rcases Bool.or_eq_true _ _▸h1 with h|h
     .simp[h]
     .simp_all
    exact step _ ω e
   .rw[Zh h1];have f:¬(bi (c.toNat:Int)||(c.toNat:Int)==45)=true:=by
     rw[Bc];intro hh;apply h1;rcases Bool.or_eq_true _ _▸hh with h|h
     .simp[h]
     .have:c=45:=UInt8.toNat_inj.mp (by simp at h;simp;omega);subst this;simp
    by_cases h2:c=110
    .subst h2;simp only[beq_self_eq_true,if_true];refine step 10 ω ?_;rw[d];unfold Md.escape;rw[Zh f];simp
    .by_cases h3:c=116
     .subst h3;simp only[show((116:UInt8)==110)=false by decide,Bool.false_eq_true,if_false,beq_self_eq_true,if_true];refine step 9 ω ?_;rw[d];unfold Md.escape;rw[Zh f];simp
     .rw[Zh (by simpa using h2),Zh (by simpa using h3)];have s:=fJ h2;have u:=fJ h3;simp at s u;refine aj.cons ω ?_;rw[d];unfold Md.escape;rw[Zh f,Zh σ,Zh σ,Zh σ];rcases hs with hs|⟨k1,k2⟩
      .grind [js,Md.to]
      .grind [Md.to]
def Be (m:Md) (r:List UInt8):Prop:=m.Low<0/\(m.M=6\/m.M=7\/m.M=8\/m.M=9) /\
 ∀ c t,r=c::t->(m.M=6->c≠94)/\(m.M=8->c≠45)
def yN (m:Md) (r:List UInt8):Prop:=∀ c t,r=c::t->(m.M=8\/m.M=9)->c≠93
def lZ (m:Md) (c:Int) (h:m.M=6\/m.M=7\/m.M=8\/m.M=9):m.step c=m.cls c:=by
 rcases h with h|h|h|h<;>simp[Md.step,h]
def yO (m:Md) (c:Int) (h:m.M=10):m.step c=if c==92 then {m with Class:=true,M:=3} else if c==91||c==93||c==94||c==45 then m.to 16 else m.byteItem c:=by
 simp[Md.step,h]
def uD (m:Md) (v:Nat) (m':Md):Prop:=Sm m m' /\
 (m.Low<0->m'.M=8/\m'.Low=m.Low/\m'.Value=v) /\
 (0<=m.Low->m'.M=9/\m'.Low=-1)
def Jp (m:Md) (r:List UInt8):dN Nat->Prop
 |.ok v r'=>∃ m',Goes m r m' r'/\uD m v m'/\v<=255
 |.bad r'=>aj m r r'
def pV (m:Md) (v:Nat) (h:0<=m.Low->m.Low<=v):uD m v (m.byteItem v):=by
 by_cases h0:0<=m.Low
 .have:=h h0;have h1:¬(v:Int)<m.Low:=ω;simp[uD,Md.byteItem,h0,h1,Sm]
  all_goals omega
 .simp[uD,Md.byteItem,h0,Sm]
def pg (m:Md) (v:Nat) (h0:0<=m.Low) (h:(v:Int)<m.Low):(m.byteItem v).M=16:=by
 simp[Md.byteItem,h0,h,Md.to]
def JY (m:Md) (r:List UInt8):Prop:=(Be m r/\yN m r)\/(m.M=10/\0<=m.Low)
def mA (m:Md) (l:Nat) (r:List UInt8) (hb:Bd m l) (hl:l<=255) (h:JY m r) (hs:(∀ c t,r=92::c::t->bK c=none)\/0<=m.Low):Jp m r (aw l r):=by
 have hM:6<=m.M/\m.M<=10:=by rcases h with⟨⟨_,h,_⟩,_⟩|h<;>omega
 match r with
 |[]=>simp only[aw,aP,Jp];exact aj.nil ω ω
 |c::t=>
  have u:=c.toNat_lt
  by_cases h92:c=92
  .subst h92;simp only[aw];have e:m.step (92:UInt8).toNat={m with Class:=true,M:=3}:=by
    rcases h with⟨⟨_,hm,hh⟩,_⟩|⟨hm,_⟩
    .rw[lZ m _ hm];simp[Md.cls]
    .rw[yO m _ hm];simp
   have g1:Goes m (92::t) {m with Class:=true,M:=3} t:=by rw[<-e];exact Goes.one _ _ _
   have hE:=kg {m with Class:=true,M:=3} l t rfl hb hl χ (by
    rcases hs with hs|hs
    .left;intro c' t' e';exact hs c' t' (by rw[e'])
    .right;exact⟨rfl,hs⟩)
   cases hR:aE l t with
   |bad r'=>rw[hR] at hE;exact aj.after g1 hE
   |ok v r'=>
    rw[hR] at hE;obtain⟨m',g2,⟨a1,-,a2,a3⟩,hv⟩:=hE;exact⟨m',g1.trans g2,⟨a1,a2 rfl,a3 rfl⟩,hv⟩
  .have hp:aw l (c::t)=aP l (c::t):=by
    unfold aw
    split
    .rename_i q;injection q with q _;exact absurd q h92
    .rfl
   rw[hp];simp only[aP]
   by_cases hbad:c=91\/c=93\/c=94\/c=45
   .have hS:(m.step c.toNat).M=16:=by
     rcases h with⟨⟨_,hm,hh⟩,hn⟩|⟨hm,_⟩
     .obtain⟨k1,k2⟩:=hh c t rfl;have k3:=hn c t rfl;rw[lZ m _ hm];unfold Md.cls;have n1:¬(((c.toNat:Int)==94&&m.M==6)=true):=by
       simp;intro q q2;exact k1 q2 (UInt8.toNat_inj.mp σ)
      have n2:¬(((c.toNat:Int)==92)=true):=by simpa using(Zu (fJ h92))
      have n3:¬(((c.toNat:Int)==93&&(m.M==8||m.M==9))=true):=by
       simp;intro q
       have hc:c=93:=UInt8.toNat_inj.mp σ;refine⟨λq2=>k3 (.inl q2) hc,λq2=>k3 (.inr q2) hc⟩
      have n4:¬(((c.toNat:Int)==45&&m.M==8)=true):=by
       simp;intro q q2
       exact k2 q2 (UInt8.toNat_inj.mp σ)
      rw[Zh n1,Zh n2,Zh n3,Zh n4,if_pos]
      .simp[Md.to]
      .rcases hbad with rfl|rfl|rfl|rfl<;>decide
     .rw[yO m _ hm];rcases hbad with rfl|rfl|rfl|rfl<;>simp[Md.to]
    by_cases hcl:c.toNat<l
    .rw[Zi hcl];exact aj.cons ω hS
    .rw[Zh hcl,Zi (by rcases hbad with h|h|h|h<;>simp[h])];exact aj.cons ω hS
   .have s:c≠91:=λe=>hbad (by simp[e])
    have d:c≠93:=λe=>hbad (by simp[e])
    have g:c≠94:=λe=>hbad (by simp[e])
    have f:c≠45:=λe=>hbad (by simp[e])
    have e:m.step c.toNat=m.byteItem c.toNat:=by
     have a1:=fJ s;have a2:=fJ d;have a3:=fJ g;have a4:=fJ f;have a5:=fJ h92;simp at a1 a2 a3 a4 a5;have b1:((c.toNat:Int)==91)=false:=σ;have b2:((c.toNat:Int)==93)=false:=σ;have b3:((c.toNat:Int)==94)=false:=σ;have b4:((c.toNat:Int)==45)=false:=σ;have b5:((c.toNat:Int)==92)=false:=σ;rcases h with⟨⟨_,hm,hh⟩,hn⟩|⟨hm,_⟩
     .rw[lZ m _ hm];simp[Md.cls,b1,b2,b3,b4,b5]
     .rw[yO m _ hm];simp[b1,b2,b3,b4,b5]
    by_cases hcl:c.toNat<l
    .rw[Zi hcl];refine aj.cons ω ?_;rw[e];rcases hb with hb|hb
     .omega
     .exact pg m _ ω ω
    .rw[Zh hcl,Zh (by simp[s,d,g,f,h92])];refine⟨_,Goes.one _ _ _,?_,ω⟩;rw[e];exact pV m _ (λ_=>hb.le _ ω)
def Bf (m:Md) (r:List UInt8):dN (Nat->Bool)->Prop
 |.ok _ r'=>∃ m',Goes m r m' r'/\Sm m m'/\Be m' r'/\(m'.M=8\/m'.M=9)
 |.bad r'=>aj m r r'
def Cs (m:Md) (l:Nat) (r:List UInt8) (hm:m.M=8) (hl:m.Low<0) (hv:m.Value=l) (h255:l<=255):Bf m r (dy l r):=by
 by_cases h45:∃ t,r=45::t
 .obtain⟨t,rfl⟩:=h45;simp only[dy];have e:m.step (45:UInt8).toNat={m with Low:=m.Value,M:=10}:=by
   rw[lZ m _ ω];simp[Md.cls,hm]
  have g1:Goes m (45::t) {m with Low:=m.Value,M:=10} t:=by rw[<-e];exact Goes.one _ _ _
  have hI:=mA {m with Low:=m.Value,M:=10} l t (.inr hv) h255 (.inr ⟨rfl,σ⟩) (.inr σ)
  cases hR:aw l t with
  |bad r'=>rw[hR] at hI;exact aj.after g1 hI
  |ok v r'=>
   rw[hR] at hI;obtain⟨m',g2,⟨a1,-,a3⟩,-⟩:=hI;have:=a3 σ;refine⟨m',g1.trans g2,a1,⟨ω,ω,λc t _=>⟨λq=>ω,λq=>ω⟩⟩,ω⟩
 .have hp:dy l r=.ok (ax l l) r:=by
   unfold dy
   split
   .exact absurd ⟨_,rfl⟩ h45
   .rfl
  rw[hp];refine⟨m,Goes.refl _ _,⟨rfl,rfl⟩,⟨hl,ω,λc t e=>⟨λq=>ω,λq hc=>h45 ⟨t,by rw[e,hc]⟩⟩⟩,ω⟩
def Et (m:Md) (r:List UInt8) (h:Be m r) (hn:yN m r):Bf m r (eU r):=by
 have d:=h.1
 have f:∀(hs:∀ c t,r=92::c::t->bK c=none),Bf m r (match aw 0 r with
  |.ok low r'=>dy low r'
  |.bad r'=>.bad r'):=by
  intro hs;have hI:=mA m 0 r (.inl ⟨d,rfl⟩) ω (.inl ⟨h,hn⟩) (.inl hs)
  cases hR:aw 0 r with
  |bad r'=>rw[hR] at hI;exact hI
  |ok v r'=>
   rw[hR] at hI;obtain⟨m',g1,⟨a1,a2,-⟩,hv⟩:=hI;obtain⟨b1,b2,b3⟩:=a2 d;have hr:=Cs m' v r' b1 ω b3 hv;show Bf m r (dy v r')
   cases hR2:dy v r' with
   |bad r''=>rw[hR2] at hr;exact aj.after g1 hr
   |ok S r''=>
    rw[hR2] at hr;obtain⟨m2,g2,⟨c1,c2⟩,c3⟩:=hr;exact⟨m2,g1.trans g2,⟨c1.trans a1.1,c2.trans a1.2⟩,c3⟩
 by_cases h92:∃ c t,r=92::c::t
 .obtain⟨c,t,rfl⟩:=h92;simp only[eU]
  cases hS:bK c with
  |none=>
   have:=f (λc' t' e=>by injection e with _ e;injection e with e _;rw[<-e];exact hS);simp only[aw] at this
   cases hB:aE 0 (c::t)<;>simp only[hB] at this ⊢<;>exact this
  |some S=>
   simp only
   have e:m.step (92:UInt8).toNat={m with Class:=true,M:=3}:=by
    rw[lZ m _ h.2.1];simp[Md.cls]
   have e2:({m with Class:=true,M:=3}:Md).step c.toNat={m with Class:=true,M:=9}:=by
    rw[nC _ c rfl];rcases js c with⟨q,_⟩|⟨_,q⟩
    .rw[q] at hS;simp at hS
    .rcases q with q|q|q<;>rw[q]<;>simp[Md.escape,Md.to,d,show bi 100=false by decide,show bi 119=false by decide,show bi 115=false by decide]
   refine⟨{m with Class:=true,M:=9},(Goes.one _ _ _).trans (by rw[e];have:=Goes.one ({m with Class:=true,M:=3}:Md) c t;rwa [e2] at this),⟨rfl,rfl⟩,⟨d,χ,λc t _=>⟨χ,χ⟩⟩,χ⟩
 .have hp:eU r=(match aw 0 r with
   |.ok low r'=>dy low r'
   |.bad r'=>.bad r'):=by
   unfold eU
   split
   .exact absurd ⟨_,_,rfl⟩ h92
   .rfl
  rw[hp];exact f (λc t e=>absurd ⟨c,t,e⟩ h92)
def Eu {α:Type} (m:Md) (r:List UInt8):dN α->Prop
 |.ok _ r'=>∃ m',Goes m r m' r'/\Sm m m'/\m'.M=2
 |.bad r'=>aj m r r'
def sY (n:Nat) (A:Nat->Bool) (m:Md) (r:List UInt8) (hn:r.length<n) (h:Be m r) (hne:yN m r):Eu m r (bd n A r):=by
 induction n generalizing A m r with
 |zero=>omega
 |succ n ih=>
  simp only[bd];have hI:=Et m r h hne
  cases hR:eU r with
  |bad r'=>rw[hR] at hI;exact hI
  |ok S r'=>
   rw[hR] at hI;obtain⟨m',g1,s1,i1,k1⟩:=hI;have hl:=k_ hR
   simp only
   by_cases h93:∃ t,r'=93::t
   .obtain⟨t,rfl⟩:=h93
    simp only
    have e:m'.step (93:UInt8).toNat={m' with Class:=false,M:=2}:=by
     rw[lZ m' _ i1.2.1];rcases k1 with k1|k1<;>simp[Md.cls,k1]
    refine⟨_,g1.trans (Goes.one _ _ _),?_,?_⟩<;>rw[e]
    exact s1
   .split
    .exact absurd ⟨_,rfl⟩ h93
    have hg:=ih (orS A S) m' r' ω i1 (λc t e _ hc=>h93 ⟨t,by rw[e,hc]⟩)
    cases hR2:bd n (orS A S) r' with
    |bad r''=>rw[hR2] at hg;exact aj.after g1 hg
    |ok S2 r''=>
     rw[hR2] at hg;obtain⟨m2,g2,s2,k2⟩:=hg;exact⟨m2,g1.trans g2,⟨s2.1.trans s1.1,s2.2.trans s1.2⟩,k2⟩
def Ct (m:Md) (r:List UInt8) (hm:m.M=6) (hl:m.Low<0):Eu m r (eH r):=by
 by_cases h94:∃ t,r=94::t
 .obtain⟨t,rfl⟩:=h94;simp only[eH];have e:m.step (94:UInt8).toNat=m.to 7:=by rw[lZ m _ ω];simp[Md.cls,hm]
  have g1:Goes m (94::t) (m.to 7) t:=by rw[<-e];exact Goes.one _ _ _
  have hg:=sY (t.length+1) (λ_=>false) (m.to 7) t ω ⟨hl,by simp[Md.to],λc t _=>⟨by simp[Md.to],by simp[Md.to]⟩⟩ (λc t _ q=>by simp[Md.to] at q)
  cases hR2:bd (t.length+1) (λ_=>false) t with
  |bad r''=>rw[hR2] at hg;exact aj.after g1 hg
  |ok S2 r''=>
   rw[hR2] at hg;obtain⟨m2,g2,s2,k2⟩:=hg;exact⟨m2,g1.trans g2,s2,k2⟩
 .have hp:eH r=bd (r.length+1) (λ_=>false) r:=by
   unfold eH
   split
   .exact absurd ⟨_,rfl⟩ h94
   .rfl
  rw[hp];exact sY _ _ m r ω ⟨hl,ω,λc t e=>⟨λ_ hc=>h94 ⟨t,by rw[e,hc]⟩,λq=>ω⟩⟩ (λc t _ q=>ω)
def wm (m:Md) (r:List UInt8) (hm:m.M=3) (hc:m.Class=false) (hl:m.Low<0):Eu m r (eo r):=by
 match r with
 |[]=>simp only[eo,Eu];exact aj.nil ω ω
 |c::t=>
  simp only[eo];rcases js c with⟨q,_⟩|⟨⟨S,q⟩,q2⟩
  .rw[q]
   simp only
   have hE:=kg m 0 (c::t) hm (.inl ⟨hl,rfl⟩) ω (λ_=>hl) (.inl λc' t' e=>by injection e with e _;rw[<-e];exact q)
   cases hR:aE 0 (c::t) with
   |bad r'=>rw[hR] at hE;exact hE
   |ok v r'=>
    rw[hR] at hE;obtain⟨m',g,⟨a1,a2,-⟩,-⟩:=hE;exact⟨m',g,a1,a2 hc⟩
  .rw[q]
   simp only
   have e2:m.step c.toNat=m.to 2:=by
    rw[nC _ c hm];rcases q2 with q|q|q<;>rw[q]<;>simp[Md.escape,hc,show bi 100=false by decide,show bi 119=false by decide,show bi 115=false by decide]
   exact⟨_,Goes.one _ _ _,by rw[e2];exact⟨rfl,rfl⟩,by rw[e2];rfl⟩
theorem oG (v lo:Int) (hv:0<=v) (hlo:0<=lo) (hlo2:lo<=30):di v lo=bm v lo:=by
 rw[Bool.eq_iff_iff]
 constructor
 .grind [di,bm]
 .intro h;simp only[di,any_eq_true,mem_range,Bool.and_eq_true,decide_eq_true_eq,Bool.or_eq_true,beq_iff_eq];unfold bm at h
  split at h
  .simp at h
  split at h
  .exact⟨v.toNat,ω,ω,.inl ω⟩
  split at h
  .simp at h
  split at h
  .simp at h
  split at h
  .refine⟨(max lo (v*10)).toNat,ω,ω,.inr ⟨ω,ω⟩⟩
  .simp at h
theorem jd (m:Md) (c:Int) (h:m.M=11\/m.M=12\/m.M=13\/m.M=14):m.step c=m.count c:=by
 rcases h with h|h|h|h<;>simp[Md.step,h]
structure sZ (m:Md) (sec begun:Bool) (value least:Int):Prop where
 hM:m.M=(if begun then 12 else 11)+(if sec then 2 else 0)
 hN:begun=true->m.N=value
 h0:begun=false->value=0
 v0:0<=value
 v1:value<=30
 hl:least=if sec then m.Least else 0
 l0:0<=least
 l1:least<=30
def sZ.md {m:Md} (h:sZ m sec begun value least):m.M=11\/m.M=12\/m.M=13\/m.M=14:=by
 have:=h.hM
 revert this
 cases sec<;>cases begun<;>simp<;>omega
def Ev (m:Md) (c:Nat) (sec begun:Bool) (value least:Int) (h:sZ m sec begun value least) (hd:48<=c/\c<=57) (hb:¬(begun=true/\value=0)) (hf:bm (value*10+(c-48)) least=true) :
  m.step c={m with N:=value*10+(c-48),M:=if sec then 14 else 12}:=by
 rw[jd m _ h.md];obtain⟨hM,hN,h0,v0,v1,hl,l0,l1⟩:=h;rw[<-oG _ _ ω l0 l1] at hf;have d1:decide ((48:Int)<=c)=true:=σ;have d2:decide ((c:Int)<=57)=true:=σ
 cases begun with
 |false=>
  have:=h0 rfl;subst this;have e:(c:Int)-48=0*10+((c:Int)-48):=ω
  cases sec with
  |false=>
   simp at hM hl;subst hl;rw[<-e] at hf;simp[Md.count,hM,d1,d2,hf]
  |true=>
   simp at hM hl;subst hl;rw[<-e] at hf;simp[Md.count,hM,d1,d2,hf]
 |true=>
  have:=hN rfl;subst this;have e:(c:Int)-48+10*m.N=m.N*10+((c:Int)-48):=ω;have hp:0<m.N:=(by have:m.N≠0:=λq=>hb ⟨rfl,q⟩;omega)
  rw[<-e] at hf;rw[<-e];obtain⟨mm,dd,mo,cl,lo,va,le,nn⟩:=m
  cases sec with
  |false=>
   simp at hM hl;subst hl;subst hM;simp at hf hp;simp[Md.count,d1,d2,hf,hp]
  |true=>
   simp at hM hl;subst hl;subst hM;simp at hf hp;simp[Md.count,d1,d2,hf,hp]
def Ew (m:Md) (c:Nat) (sec begun:Bool) (value least:Int) (h:sZ m sec begun value least)
  (hn:¬(48<=c/\c<=57/\¬(begun=true/\value=0)/\bm (value*10+(c-48)) least=true)) :
  (c=44/\m.M=12)\/(c=125/\(m.M=12\/m.M=13\/(m.M=14/\least<=value)))\/(m.step c).M=16:=by
 rw[jd m _ h.md];obtain⟨hM,hN,h0,v0,v1,hl,l0,l1⟩:=h;have key:∀ f:Bool,(decide ((48:Int)<=c)&&decide ((c:Int)<=57))=true->f=di (value*10+((c:Int)-48)) least->f=false\/(begun=true/\value=0):=by grind [oG]
 unfold Md.count
 extract_lets digit v lo fits
 have d:digit=true->fits=false\/(begun=true/\value=0):=by grind
 split
 .grind
 split
 .simp_all
 split
 .grind
 split
 .grind
 .grind [Md.to]
def L4 (m:Md) (sec:Bool) (least:Int) (r:List UInt8):dN Int->Prop
 |.ok v r'=>∃ m',Goes m r m' r'/\Sm m m'/\m'.M=(if sec then 14 else 12)/\m'.N=v/\m'.Least=m.Least/\0<=v/\v<=30/\least<=v/\∀ c t,r'=c::t->(c=44/\m'.M=12)\/c=125\/(m'.step c.toNat).M=16
 |.bad r'=>aj m r r'
def Cu {v l:Int} (h:bm v l=true):v<=30:=by grind [bm]
def pW (r:List UInt8) (m:Md) (sec begun:Bool) (value least:Int) (h:sZ m sec begun value least) (hh:∀ c t,r=c::t->begun=false->sec=true->c≠125):L4 m sec least r (aK least value begun r):=by
 induction r generalizing m begun value with
 |nil=>
  have s:=h.md;simp only[aK]
  split
  .rename_i q;refine⟨m,Goes.refl _ _,⟨rfl,rfl⟩,?_,h.hN q.1,rfl,h.v0,h.v1,q.2,λc t e=>by simp at e⟩;rw[h.hM,q.1];cases sec<;>simp
  .exact aj.nil ω ω
 |cons c t ih=>
  have s:=h.md;simp only[aK]
  split
  .rename_i q;obtain⟨q1,q2,q3,q4⟩:=q;have e:=Ev m c.toNat sec begun value least h ⟨q1,q2⟩ q3 q4;have hb:=Cu q4;have hv:=h.v0;have hi:sZ {m with N:=value*10+((c.toNat:Int)-48),M:=if sec then 14 else 12} sec true (value*10+((c.toNat:Int)-48)) least:=
    ⟨by cases sec<;>simp,λ_=>rfl,χ,ω,hb,by rw[h.hl],h.l0,h.l1⟩
   have hg:=ih _ true _ hi χ;have g1:Goes m (c::t) {m with N:=value*10+((c.toNat:Int)-48),M:=if sec then 14 else 12} t:=by rw[<-e];exact Goes.one _ _ _
   cases hR:aK least (value*10+((c.toNat:Int)-48)) true t with
   |bad r'=>rw[hR] at hg;exact aj.after g1 hg
   |ok v r'=>
    rw[hR] at hg;obtain⟨m',g2,s2,k1,k2,k3,k4⟩:=hg;exact⟨m',g1.trans g2,s2,k1,k2,k3,k4⟩
  .rename_i q;have d:=Ew m c.toNat sec begun value least h q;have f:∀ k:UInt8,c.toNat=k.toNat->c=k:=λk e=>UInt8.toNat_inj.mp e
   split
   .rename_i q2;refine⟨m,Goes.refl _ _,⟨rfl,rfl⟩,?_,h.hN q2.1,rfl,h.v0,h.v1,q2.2,λc' t' e=>?_⟩
    .rw[h.hM,q2.1];cases sec<;>simp
    .injection e with e _;subst e;rcases d with d|d|d
     .exact .inl ⟨f 44 d.1,d.2⟩
     .exact .inr (.inl (f 125 d.1))
     .omega
   .rename_i q2;refine aj.cons ω ?_;rcases d with⟨d,g⟩|⟨d,g⟩|d
    .exfalso
     have hM:=h.hM
     cases begun with
     |false=>cases sec<;>simp at hM<;>omega
     |true=>
      cases sec with
      |false=>
       have:=h.hl;simp at this;exact q2 ⟨rfl,by have:=h.v0;omega⟩
      |true=>simp at hM;omega
    .exfalso
     have hM:=h.hM
     cases begun with
     |false=>
      cases sec with
      |false=>simp at hM;omega
      |true=>exact hh c t rfl rfl rfl (f 125 d)
     |true=>
      cases sec with
      |false=>
       have:=h.hl;simp at this;exact q2 ⟨rfl,by have:=h.v0;omega⟩
      |true=>simp at hM;exact q2 ⟨rfl,ω⟩
    .exact d
def yP (m:Md) (r:List UInt8) (hm:m.M=11):Eu m r (dO r):=by
 simp only[dO];have hD:=pW r m false false 0 0 ⟨by simpa using hm,χ,χ,ω,ω,χ,ω,ω⟩ χ
 cases hR:aK 0 0 false r with
 |bad r'=>rw[hR] at hD;exact hD
 |ok a r'=>
  rw[hR] at hD;obtain⟨m1,g1,s1,k1,k2,k3,a0,a1,-,k4⟩:=hD;simp at k1
  simp only
  have s:∀ t,r'=125::t->∃ m',Goes m r m' t/\Sm m m'/\m'.M=2:=by
   rintro t rfl;have e:m1.step (125:UInt8).toNat=m1.to 2:=by rw[jd m1 _ ω];simp[Md.count,k1]
   refine⟨m1.to 2,g1.trans (by rw[<-e];exact Goes.one _ _ _),s1,rfl⟩
  have g:∀ t,r'=44::t->Goes m r {m1 with Least:=m1.N,M:=13} t:=by
   rintro t rfl;have e:m1.step (44:UInt8).toNat={m1 with Least:=m1.N,M:=13}:=by rw[jd m1 _ ω];simp[Md.count,k1]
   exact g1.trans (by rw[<-e];exact Goes.one _ _ _)
  split
  .rename_i t;have g2:=g _ rfl;have e:({m1 with Least:=m1.N,M:=13}:Md).step (125:UInt8).toNat=({m1 with Least:=m1.N,M:=13}:Md).to 2:=by grind [jd,Md.count]
   exact⟨({m1 with Least:=m1.N,M:=13}:Md).to 2,g2.trans (by rw[<-e];exact Goes.one _ _ _),s1,rfl⟩
  .rename_i t u;have g2:=g _ rfl;have d:=pW t {m1 with Least:=m1.N,M:=13} true false 0 a ⟨χ,χ,χ,ω,ω,by simp[k2],ω,ω⟩ (λc t' e _ _ hc=>u t' (by rw[e,hc]))
   cases hR2:aK a 0 false t with
   |bad r''=>rw[hR2] at d;exact aj.after g2 d
   |ok v r''=>
    rw[hR2] at d;obtain⟨m2,g3,s3,j1,j2,j3,v0,v1,v2,j4⟩:=d;simp at j1
    simp only
    have h:=g2.trans g3
    split
    .have e:m2.step (125:UInt8).toNat=m2.to 2:=by
      rw[jd m2 _ ω];have j5:m2.Least<=m2.N:=by rw[j3,j2];simpa [k2] using v2
      simp[Md.count,j1,j5]
     exact⟨m2.to 2,h.trans (by rw[<-e];exact Goes.one _ _ _),⟨s3.1.trans s1.1,s3.2.trans s1.2⟩,rfl⟩
    .rename_i f;refine aj.after h ?_
     match r'',j4,f with
     |[],_,_=>exact aj.nil ω ω
     |c::t',j4,f=>
      rcases j4 c t' rfl with q|q|q
      .omega
      .simp_all
      .grind [aj.cons]
  .rename_i t;obtain⟨m',q⟩:=s t rfl;exact⟨m',q⟩
  .rename_i n1 n2 n3;refine aj.after g1 ?_
   match r',k4,n1,n2,n3 with
   |[],_,_,_,_=>exact aj.nil ω ω
   |c::t',k4,n1,n2,n3=>
    rcases k4 c t' rfl with q|q|q
    .simp_all
    .simp_all
    .grind [aj.cons]
def Ey (r:List UInt8):Prop:=∀ c t,r=c::t->¬(c=42\/c=43\/c=63)/\c≠123
def iq (m:Md) (c:Int) (h:m.M=0\/m.M=1\/m.M=2):m.step c=m.chain c:=by grind [Md.step]
def L5 (m:Md) (r:List UInt8):dN (List dw)->Prop
 |.ok _ r'=>∃ m',Goes m r m' r'/\Sm m m'/\m'.M=2/\Ey r'
 |.bad r'=>aj m r r'
def yQ (n:Nat) (m:Md) (r:List UInt8) (hn:r.length<n) (hm:m.M=2):L5 m r (aJ n r):=by
 induction n generalizing m r with
 |zero=>omega
 |succ n ih=>
  match r with
  |[]=>simp only[aJ];exact⟨m,Goes.refl _ _,⟨rfl,rfl⟩,hm,λc t e=>by simp at e⟩
  |c::t=>
   simp at hn;simp only[aJ]
   split
   .rename_i q;have e:m.step c.toNat=m:=by
     rw[iq m _ ω];rcases q with rfl|rfl|rfl<;>simp[Md.chain,hm]
    have g1:Goes m (c::t) m t:=by have:=Goes.one m c t;rwa [e] at this
    have hg:=ih m t ω hm
    cases hR:aJ n t with
    |bad r'=>rw[hR] at hg;exact aj.after g1 hg
    |ok v r'=>
     rw[hR] at hg;obtain⟨m',g2,q⟩:=hg;exact⟨m',g1.trans g2,q⟩
   .rename_i q
    split
    .rename_i q2;subst q2;have e:m.step (123:UInt8).toNat=m.to 11:=by rw[iq m _ ω];simp[Md.chain,hm]
     have g1:Goes m (123::t) (m.to 11) t:=by rw[<-e];exact Goes.one _ _ _
     have hB:=yP (m.to 11) t rfl
     cases hR:dO t with
     |bad r'=>rw[hR] at hB;exact aj.after g1 hB
     |ok v r'=>
      rw[hR] at hB;have hl:=gA hR;obtain⟨m1,g2,s2,k2⟩:=hB
      simp only
      have hg:=ih m1 r' ω k2
      cases hR2:aJ n r' with
      |bad r''=>rw[hR2] at hg;exact aj.after (g1.trans g2) hg
      |ok v2 r''=>
       rw[hR2] at hg;obtain⟨m',g3,s3,q⟩:=hg;exact⟨m',(g1.trans g2).trans g3,⟨s3.1.trans s2.1,s3.2.trans s2.2⟩,q⟩
    .rename_i q2;exact⟨m,Goes.refl _ _,⟨rfl,rfl⟩,hm,λc' t' e=>by injection e with e _;subst e;exact⟨q,q2⟩⟩
def ir (m:Md) (r:List UInt8):Prop:=0<=m.Depth/\m.Depth<=m.Most/\((m.M=0/\(∀ c t,r=c::t->c≠94))\/m.M=1\/(m.M=2/\Ey r))
def ir.md {m:Md} (h:ir m r):m.M=0\/m.M=1\/m.M=2:=by
 rcases h.2.2 with h|h|h<;>omega
def Dp (m m':Md) (k:Nat):Prop:=m'.Depth=m.Depth/\m'.Most=max m.Most (m.Depth+k)
def Dp.of_sm {m m':Md} (h:Sm m m') (hl:m.Depth<=m.Most):Dp m m' 0:=⟨h.1,by rw[h.2];omega⟩
theorem Dp.trans {m m1 m2:Md}{j k:Nat} (h:Dp m m1 j) (g:Dp m1 m2 k):Dp m m2 (max j k):=by
 obtain⟨h1,h2⟩:=h;obtain⟨g1,g2⟩:=g;exact⟨g1.trans h1,by rw[g2,h2,h1];omega⟩
def Dp.sm {m m1 m2:Md} (h:Dp m m1 j) (g:Sm m1 m2):Dp m m2 j:=⟨g.1.trans h.1,g.2.trans h.2⟩
def Jq (m:Md) (r:List UInt8):dN (List (List aO)×(Nat->Bool))->Prop
 |.ok (g,_) r'=>∃ m',Goes m r m' r'/\Dp m m' (eV g)/\m'.M=2
 |.bad r'=>aj m r r'
def K5 (m:Md) (r:List UInt8):dN aO->Prop
 |.ok p r'=>∃ m',Goes m r m' r'/\Dp m m' (oy p)/\m'.M=2/\Ey r'
 |.bad r'=>aj m r r'
def JZ (m:Md) (r:List UInt8):dN (List aO)->Prop
 |.ok ps r'=>∃ m',Goes m r m' r'/\Dp m m' (dM ps)/\ir m' r'/\ci r'=false
 |.bad r'=>aj m r r'
def L6 (m:Md) (r:List UInt8):dN (List (List aO))->Prop
 |.ok cs r'=>∃ m',Goes m r m' r'/\Dp m m' (aZ cs)/\ir m' r'/\ci r'=false/\(∀ t,r'≠124::t)
 |.bad r'=>aj m r r'
def uE (h:ci (c::t)=true):c=46\/c=92\/c=91\/c=40\/lK c=false:=by
 simp[ci] at h;rcases h with(((h|h)|h)|h)|h
 .exact .inl h
 .exact .inr (.inl h)
 .exact .inr (.inr (.inl h))
 .exact .inr (.inr (.inr (.inl h)))
 .exact .inr (.inr (.inr (.inr h)))
def yR (h:ci (c::t)=false):c=93\/c=41\/c=123\/c=125\/c=124\/c=42\/c=43\/c=63\/c=94\/c=36:=by
 simp only[ci,Bool.or_eq_false_iff,Bool.not_eq_false',beq_eq_false_iff_ne,ne_eq] at h;obtain⟨⟨⟨⟨h1,h2⟩,h3⟩,h4⟩,h5⟩:=h;unfold lK at h5;rw[contains_iff_mem] at h5;simp only[mem_cons,not_mem_nil,or_false] at h5;simp only[h1,h2,h3,h4,false_or] at h5;exact h5
def wn (m:Md) (c:UInt8) (h:c=46\/lK c=false):m.chain c.toNat=m.to 2:=by
 have hh:∀ k:UInt8,k≠46->lK k=true->c.toNat≠k.toNat:=by
  intro k h1 h2 e;have:=UInt8.toNat_inj.mp e;subst this;rcases h with h|h
  .exact h1 h
  .rw[h] at h2;simp at h2
 have a1:=hh 94 Zr Zr;have a2:=hh 36 Zr Zr;have a3:=hh 124 Zr Zr;have a4:=hh 40 Zr Zr;have a5:=hh 41 Zr Zr;have a6:=hh 91 Zr Zr;have a7:=hh 92 Zr Zr;have a8:=hh 42 Zr Zr;have a9:=hh 43 Zr Zr;have b1:=hh 63 Zr Zr;have b2:=hh 123 Zr Zr;have b3:=hh 125 Zr Zr;have b4:=hh 93 Zr Zr;simp at a1 a2 a3 a4 a5 a6 a7 a8 a9 b1 b2 b3 b4;unfold Md.chain
 repeat rw[Zh σ]
def s_ (m:Md) (c:UInt8) (t:List UInt8) (h:ir m (c::t)) (hb:ci (c::t)=false) (h1:c≠124) (h2:c=41->m.Depth=0) (h3:c=36->0<m.Depth):(m.step c.toNat).M=16:=by
 rw[iq m _ h.md];have hc:=yR hb;have d:c=42\/c=43\/c=63\/c=123->m.M≠2:=by
  intro q q2;rcases h.2.2 with h|h|h
  .omega
  .omega
  .have:=h.2 c t rfl;rcases q with q|q|q|q<;>simp[q] at this
 have f:c=94->m.M≠0:=by
  intro q q2;rcases h.2.2 with h|h|h
  .exact h.2 c t rfl q
  .omega
  .omega
 rcases hc with rfl|rfl|rfl|rfl|rfl|rfl|rfl|rfl|rfl|rfl
 .simp[Md.chain,Md.to]
 .have:=h2 rfl;simp[Md.chain,Md.group,this,Md.to]
 .have:=d χ;simp[Md.chain,this,Md.to]
 .simp[Md.chain,Md.to]
 .exact absurd rfl h1
 .have:=d χ;simp[Md.chain,this,Md.to]
 .have:=d χ;simp[Md.chain,this,Md.to]
 .have:=d χ;simp[Md.chain,this,Md.to]
 .have:=f rfl;simp[Md.chain,this,Md.to]
 .have:=h3 rfl;have:m.Depth≠0:=ω;simp[Md.chain,this,Md.to]
def Hs (n:Nat) :
  (∀ m r,4*r.length+3<n->ir m r->L6 m r (ay n r)) /\
  (∀ m r,4*r.length+2<n->ir m r->JZ m r (bB n r)) /\
  (∀ m r,4*r.length+1<n->ir m r->ci r=true->K5 m r (dA n r)) /\
  (∀ m r,4*r.length<n->ir m r->ci r=true->Jq m r (bV n r)):=by
 induction n with
 |zero=>exact⟨λ_ _ h=>ω,λ_ _ h=>ω,λ_ _ h=>ω,λ_ _ h=>ω⟩
 |succ n ih=>
  obtain⟨i1,i2,i3,i4⟩:=ih;refine⟨λm r hn h=>?_,λm r hn h=>?_,λm r hn h hb=>?_,λm r hn h hb=>?_⟩
  .simp only[ay];have hC:=i2 m r ω h
   cases hR:bB n r with
   |bad r'=>rw[hR] at hC;exact hC
   |ok c r'=>
    rw[hR] at hC;obtain⟨m1,g1,d1,k1,b1⟩:=hC;have hl:=(Cr n).2.1 _ _ _ hR
    simp only
    split
    .rename_i t;have e:m1.step (124:UInt8).toNat=m1.to 1:=by rw[iq m1 _ k1.md];simp[Md.chain]
     have g2:Goes m r (m1.to 1) t:=g1.trans (by rw[<-e];exact Goes.one _ _ _);simp at hl;have hG:=i1 (m1.to 1) t ω ⟨k1.1,k1.2.1,.inr (.inl rfl)⟩
     cases hR2:ay n t with
     |bad r''=>rw[hR2] at hG;exact aj.after g2 hG
     |ok cs r''=>
      rw[hR2] at hG;obtain⟨m2,g3,d2,q⟩:=hG;refine⟨m2,g2.trans g3,?_,q⟩;have:Dp m (m1.to 1) (dM c):=d1
      simpa [aZ] using this.trans d2
    .rename_i d;refine⟨m1,g1,?_,k1,b1,λt e=>d t e⟩
     simpa [aZ] using d1
  .simp only[bB]
   split
   .rename_i hb;have hP:=i3 m r ω h hb
    cases hR:dA n r with
    |bad r'=>rw[hR] at hP;exact hP
    |ok p r'=>
     rw[hR] at hP;obtain⟨m1,g1,d1,k1,k2⟩:=hP;have hl:=(Cr n).2.2.1 _ _ _ hR
     simp only
     have hd:ir m1 r':=⟨by rw[d1.1];exact h.1,by have:=h.2.1;have:=d1.1;have:=d1.2;omega,.inr (.inr ⟨k1,k2⟩)⟩
     have hG:=i2 m1 r' ω hd
     cases hR2:bB n r' with
     |bad r''=>rw[hR2] at hG;exact aj.after g1 hG
     |ok ps r''=>
      rw[hR2] at hG;obtain⟨m2,g3,d2,q⟩:=hG;refine⟨m2,g1.trans g3,?_,q⟩
      simpa [dM] using d1.trans d2
   .rename_i hb;exact⟨m,Goes.refl _ _,⟨rfl,by have:=h.2.1;simp[dM];omega⟩,h,by simpa using hb⟩
  .simp only[dA];have hA:=i4 m r ω h hb
   cases hR:bV n r with
   |bad r'=>rw[hR] at hA;exact hA
   |ok gS r'=>
    obtain⟨g,S⟩:=gS;rw[hR] at hA;obtain⟨m1,g1,d1,k1⟩:=hA
    simp only
    have hG:=yQ (r'.length+1) m1 r' ω k1
    cases hR2:aJ (r'.length+1) r' with
    |bad r''=>rw[hR2] at hG;exact aj.after g1 hG
    |ok cs r''=>
     rw[hR2] at hG;obtain⟨m2,g3,d2,k2,k3⟩:=hG;exact⟨m2,g1.trans g3,by rw[pS];exact d1.sm d2,k2,k3⟩
  .simp only[bV]
   match r,hn,h,hb with
   |c::t,hn,h,hb=>
    simp at hn
    simp only
    have hc:=iq m c.toNat h.md;have hd:=h.2.1;have f:∀ S:Nat->Bool,(c=46\/lK c=false)->Jq m (c::t) (.ok ([],S) t):=by
     intro S q;have e:m.step c.toNat=m.to 2:=by rw[hc,wn m c q]
     refine⟨_,Goes.one _ _ _,?_,by rw[e];rfl⟩;rw[e];exact Dp.of_sm ⟨rfl,rfl⟩ hd
    split
    .rename_i q;subst q;have e:m.step (40:UInt8).toNat={m with Depth:=m.Depth+1,Most:=if m.Most<m.Depth+1 then m.Depth+1 else m.Most,M:=1}:=by
      rw[hc];simp[Md.chain,Md.group]
     have g1:Goes m (40::t) {m with Depth:=m.Depth+1,Most:=if m.Most<m.Depth+1 then m.Depth+1 else m.Most,M:=1} t:=by rw[<-e];exact Goes.one _ _ _
     have hG:=i1 {m with Depth:=m.Depth+1,Most:=if m.Most<m.Depth+1 then m.Depth+1 else m.Most,M:=1} t ω ⟨by have:=h.1;simp;omega,by simp;split<;>omega,.inr (.inl rfl)⟩
     cases hR:ay n t with
     |bad r'=>rw[hR] at hG;exact aj.after g1 hG
     |ok cs r'=>
      rw[hR] at hG;obtain⟨m2,g2,d2,k2,b2,n2⟩:=hG;have u:0<m2.Depth:=by have:=d2.1;have:=h.1;simp at *;omega
      have s:=g1.trans g2
      simp only
      split
      .rename_i t';have d:m2.Depth≠0:=ω;have e2:m2.step (41:UInt8).toNat={m2 with Depth:=m2.Depth-1,M:=2}:=by
        rw[iq m2 _ k2.md];simp[Md.chain,Md.group,d]
       refine⟨_,s.trans (Goes.one _ _ _),?_,by rw[e2]⟩;rw[e2];obtain⟨d3,d4⟩:=d2;simp at d3 d4;have z:∃ a l,cs=a::l:=by
        cases n with
        |zero=>simp[ay] at hR
        |succ n=>
         simp only[ay] at hR
         split at hR
         .simp at hR
         .split at hR
          .split at hR
           .injection hR with hR _;exact⟨_,_,hR.symm⟩
           .simp at hR
          .injection hR with hR _;exact⟨_,_,hR.symm⟩
       obtain⟨a,l,rfl⟩:=z;refine⟨σ,?_⟩;simp only[eV];rw[d4]
       split<;>omega
      .rename_i d;refine aj.after s ?_
       match r',k2,b2,n2,d with
       |[],k2,_,_,_=>exact⟨m2,Goes.refl _ _,by have:=k2.md;omega,.inl u⟩
       |c'::t',k2,b2,n2,d=>
        refine aj.cons (η k2.md) (s_ m2 c' t' k2 b2 (λq=>n2 t' (by rw[q])) (λq=>absurd (by rw[q]) (d t')) (λ_=>u))
    .rename_i B
     split
     .rename_i q;subst q;have e:m.step (91:UInt8).toNat={m with Low:=-1,M:=6}:=by rw[hc];simp[Md.chain]
      have g1:Goes m (91::t) {m with Low:=-1,M:=6} t:=by rw[<-e];exact Goes.one _ _ _
      have hG:=Ct {m with Low:=-1,M:=6} t rfl χ
      cases hR:eH t with
      |bad r'=>rw[hR] at hG;exact aj.after g1 hG
      |ok S r'=>
       rw[hR] at hG;obtain⟨m2,g2,s2,k2⟩:=hG;exact⟨m2,g1.trans g2,Dp.of_sm s2 hd,k2⟩
     .rename_i y
      split
      .rename_i q;subst q;have e:m.step (92:UInt8).toNat={m with Class:=false,Low:=-1,M:=3}:=by rw[hc];simp[Md.chain]
       have g1:Goes m (92::t) {m with Class:=false,Low:=-1,M:=3} t:=by rw[<-e];exact Goes.one _ _ _
       have hG:=wm {m with Class:=false,Low:=-1,M:=3} t rfl rfl χ
       cases hR:eo t with
       |bad r'=>rw[hR] at hG;exact aj.after g1 hG
       |ok S r'=>
        rw[hR] at hG;obtain⟨m2,g2,s2,k2⟩:=hG;exact⟨m2,g1.trans g2,Dp.of_sm s2 hd,k2⟩
      .rename_i E
       split
       .rename_i q;exact f _ (.inl q)
       .rename_i x;refine f _ (.inr ?_);rcases uE hb with q|q|q|q|q
        .exact absurd q x
        .exact absurd q E
        .exact absurd q y
        .exact absurd q B
        .exact q
def Cv (hl:l.length<=200) (h:aj Md.init l r')  (hS:LT l e p):e=3/\p=((l.length-r'.length:Nat):Int):=by
 obtain⟨m',⟨u,rfl,hu⟩,hM,hr⟩:=h
 match r',hr with
 |[],hr=>
  have d:runAll Md.init (u++[])=m':=by simpa using hu
  have s:∀ i,¬ kd (u++[]) i:=by
   rintro i ⟨h1,h2,-⟩;have e2:∀ x y:List UInt8,runAll Md.init (x++y)=runAll (runAll Md.init x) y:=λx y=>by simp[runAll]
   have e3:=e2 ((u++[]).take (i+1)) ((u++[]).drop (i+1));rw[take_append_drop] at e3;have:(runAll Md.init (u++[])).M=16:=by rw[e3];exact go _ _ h2
   rw[d] at this;exact hM this
  rcases hS with h|h|h|h|h
  .omega
  .obtain⟨_,i,h,_⟩:=h;exact absurd h (s i)
  .refine⟨h.2.2.2.1,?_⟩;rw[h.2.2.2.2];simp
  .rw[d] at h;omega
  .rw[d] at h;omega
 |c::t,hr=>
  have hB:kd (u++c::t) u.length:=by
   refine⟨χ,?_,?_⟩
   .have:(u++c::t).take (u.length+1)=u++[c]:=by
     rw[show u++c::t=(u++[c])++t by simp];exact take_left' χ
    rw[this,kc,hu];exact hr
   .rw[take_left];rw[hu];exact hM
  have d:(runAll Md.init (u++c::t)).M=16:=by
   have:u++c::t=(u++[c])++t:=χ;rw[this];have e2:runAll Md.init ((u++[c])++t)=runAll (runAll Md.init (u++[c])) t:=by simp[runAll]
   rw[e2];apply go;rw[kc,hu];exact hr
  have g:∀ i,kd (u++c::t) i->i=u.length:=by
   have f:∀ i j,i<=j->(runAll Md.init ((u++c::t).take i)).M=16->(runAll Md.init ((u++c::t).take j)).M=16:=by
    intro i j z hi;have e1:(u++c::t).take j=(u++c::t).take i++((u++c::t).drop i).take (j-i):=by
     rw[<-take_add];congr 1;omega
    rw[e1];have e2:∀ x y:List UInt8,runAll Md.init (x++y)=runAll (runAll Md.init x) y:=λx y=>by simp[runAll]
    rw[e2];exact go _ _ hi
   rintro i ⟨_,h2,h3⟩;rcases Nat.lt_trichotomy i u.length with h|h|h
   .exact absurd (f (i+1) u.length ω h2) hB.2.2
   .exact h
   .exact absurd (f (u.length+1) i ω hB.2.1) h3
  rcases hS with h|h|h|h|h
  .omega
  .obtain⟨_,i,h,he,hp⟩:=h;refine⟨he,?_⟩;rw[hp,g i h];simp
  .exact absurd d h.2.1
  .omega
  .omega
end Go.Proofs.YtbjabpodkaokjaaGreatDoor.Sx
