import Derived.Test.YtbjabpodkaokjaaGreatDoorJ36
import Derived.Test.YtbjabpodkaokjaaGreatDoorJ33
import Derived.Test.YtbjabpodkaokjaaGreatDoorJ11
import Derived.BigQuiet
import Derived.BigGuard
import Derived.Deep.RegionHeld3
set_option linter.unusedVariables false
set_option linter.unusedSimpArgs false
set_option maxHeartbeats 4000000
set_option maxRecDepth 100000
namespace Go.Proofs.YtbjabpodkaokjaaGreatDoor
open Sx (Prt Cnt Res pChain pChoices pPart pAtom pCounts pBounds begins)
inductive Kc where
 |star|plus|opt
 |br (l m:Nat)
 |inf (l:Nat)
 |ex (l:Nat)
inductive KT where
 |nil
 |chr (c:UInt8)
 |nota
 |cat (x y:KT)
 |g1 (x:KT) (cs:List Kc)
 |g2 (x y:KT) (cs:List Kc)
def dg (n:Nat):UInt8:=UInt8.ofNat (48+n)
def txc:Kc→List UInt8
 |.star=>[42]
 |.plus=>[43]
 |.opt=>[63]
 |.br l m=>[123,dg l,44,dg m,125]
 |.inf l=>[123,dg l,44,125]
 |.ex l=>[123,dg l,125]
def cnt:Kc→Cnt
 |.star=>⟨42,0,0⟩
 |.plus=>⟨43,0,0⟩
 |.opt=>⟨63,0,0⟩
 |.br l m=>⟨123,l,m⟩
 |.inf l=>⟨123,l,-1⟩
 |.ex l=>⟨123,l,l⟩
def KcOk:Kc→Prop
 |.br l m=>l≤2∧m≤4∧l≤m
 |.inf l=>l≤2
 |.ex l=>l≤2
 |_=>True
def tx:KT→List UInt8
 |.nil=>[]
 |.chr c=>[c]
 |.nota=>[91,94,97,93]
 |.cat x y=>tx x++tx y
 |.g1 x cs=>40::(tx x++41::cs.flatMap txc)
 |.g2 x y cs=>40::(tx x++124::(tx y++41::cs.flatMap txc))
def nS:Nat→Bool:=fun n=>!(Sx.orS (fun _=>false) (Sx.inSpan 97 97) n)
def toC:KT→List Prt
 |.nil=>[]
 |.chr c=>[.mk [] (Sx.inSpan c.toNat c.toNat) []]
 |.nota=>[.mk [] nS []]
 |.cat x y=>toC x++toC y
 |.g1 x cs=>[.mk [toC x] (fun _=>false) (cs.map cnt)]
 |.g2 x y cs=>[.mk [toC x,toC y] (fun _=>false) (cs.map cnt)]
def KOk:KT→Prop
 |.nil=>True
 |.chr c=>c=97∨c=98∨c=99
 |.nota=>True
 |.cat x y=>KOk x∧KOk y
 |.g1 x cs=>KOk x∧∀ c∈cs,KcOk c
 |.g2 x y cs=>KOk x∧KOk y∧∀ c∈cs,KcOk c
def noC:List UInt8→Prop
 |[]=>True
 |c::_=>c≠42∧c≠43∧c≠63∧c≠123
theorem toC_len:∀ t,(toC t).length≤(tx t).length
 |.nil=>by simp[toC,tx]
 |.chr c=>by simp[toC,tx]
 |.nota=>by simp[toC,tx]
 |.cat x y=>by have:=toC_len x;have:=toC_len y;simp[toC,tx];omega
 |.g1 x cs=>by simp[toC,tx]
 |.g2 x y cs=>by simp[toC,tx]
theorem noC_tx:∀ t,KOk t→∀ {rest:List UInt8},noC rest→noC (tx t++rest)
 |.nil,_,rest,h=>h
 |.chr c,hk,rest,_=>by
  simp only[KOk] at hk
  show c≠42∧c≠43∧c≠63∧c≠123
  rcases hk with rfl|rfl|rfl<;>decide
 |.nota,_,rest,_=>by simp[tx,noC]
 |.cat x y,hk,rest,h=>by
  simp only[KOk] at hk
  simp only[tx,List.append_assoc]
  exact noC_tx x hk.1 (noC_tx y hk.2 h)
 |.g1 x cs,_,rest,_=>by simp[tx,noC]
 |.g2 x y cs,_,rest,_=>by simp[tx,noC]
theorem pBounds_br {l m:Nat} (h:l≤2∧m≤4∧l≤m) (t:List UInt8):pBounds (dg l::44::dg m::125::t)=.ok ((l:Int),(m:Int)) t:=by
 obtain⟨h1,h2,h3⟩:=h
 have hl:l=0∨l=1∨l=2:=by omega
 have hm:m=0∨m=1∨m=2∨m=3∨m=4:=by omega
 rcases hl with rfl|rfl|rfl<;>rcases hm with rfl|rfl|rfl|rfl|rfl<;>first|omega|rfl
theorem pBounds_inf {l:Nat} (h:l≤2) (t:List UInt8):pBounds (dg l::44::125::t)=.ok ((l:Int),-1) t:=by
 have hl:l=0∨l=1∨l=2:=by omega
 rcases hl with rfl|rfl|rfl<;>rfl
theorem pBounds_ex {l:Nat} (h:l≤2) (t:List UInt8):pBounds (dg l::125::t)=.ok ((l:Int),(l:Int)) t:=by
 have hl:l=0∨l=1∨l=2:=by omega
 rcases hl with rfl|rfl|rfl<;>rfl
theorem pCounts_no {n:Nat}{rest:List UInt8} (h:noC rest):pCounts (n+1) rest=.ok [] rest:=by
 cases rest with
 |nil=>simp[pCounts]
 |cons c t=>
  obtain⟨h1,h2,h3,h4⟩:=h
  simp[pCounts,h1,h2,h3,h4]
theorem pCounts_tx:∀(cs:List Kc) (n:Nat) {rest:List UInt8},(∀ c∈cs,KcOk c)→cs.length<n→noC rest→pCounts n (cs.flatMap txc++rest)=.ok (cs.map cnt) rest
 |[],n+1,rest,_,_,h=>pCounts_no h
 |c::cs,n+1,rest,hk,hl,h=>by
  have ih:=pCounts_tx cs n (fun c hc=>hk c (by simp[hc])) (by simp at hl;omega) h
  have hc:=hk c (by simp)
  cases c with
  |star=>simp[pCounts,txc,ih,cnt]
  |plus=>simp[pCounts,txc,ih,cnt]
  |opt=>simp[pCounts,txc,ih,cnt]
  |br l m=>simp[pCounts,txc,pBounds_br hc,ih,cnt]
  |inf l=>simp[pCounts,txc,pBounds_inf hc,ih,cnt]
  |ex l=>simp[pCounts,txc,pBounds_ex hc,ih,cnt]
 |[],0,rest,_,hl,_=>by simp at hl
 |c::cs,0,rest,_,hl,_=>by simp at hl
theorem txc_len:∀ cs:List Kc,cs.length≤(cs.flatMap txc).length
 |[]=>by simp
 |c::cs=>by
  have:=txc_len cs
  rw[List.flatMap_cons,List.length_append]
  have:1≤(txc c).length:=by cases c<;>simp[txc]
  simp only[List.length_cons];omega
def pre (ps:List Prt):Res (List Prt)→Res (List Prt)
 |.ok qs r=>.ok (ps++qs) r
 |.bad r=>.bad r
theorem pre_nil (x:Res (List Prt)):pre [] x=x:=by cases x<;>rfl
theorem pre_pre (a b:List Prt) (x:Res (List Prt)):pre a (pre b x)=pre (a++b) x:=by cases x<;>simp[pre]
theorem pChain_part {n:Nat}{r rest:List UInt8}{p:Prt} (hb:begins r=true) (h:pPart n r=.ok p rest):pChain (n+1) r=pre [p] (pChain n rest):=by
 simp only[Sx.pChain,hb,if_true,h]
 cases pChain n rest<;>rfl
theorem pChain_end {n:Nat}{r:List UInt8} (h:begins r=false):pChain (n+1) r=.ok [] r:=by
 simp[Sx.pChain,h]
theorem pPart_at {n:Nat}{r r' rest:List UInt8}{g:List (List Prt)}{S:Nat→Bool}{cs:List Cnt} (h:pAtom n r=.ok (g,S) r') (hc:pCounts (r'.length+1) r'=.ok cs rest):pPart (n+1) r=.ok (.mk g S cs) rest:=by
 simp[Sx.pPart,h,hc]
theorem pChain_tx:∀ t,KOk t→∀(n:Nat) (rest:List UInt8),3*(tx t).length≤n→noC rest→pChain n (tx t++rest)=pre (toC t) (pChain (n-(toC t).length) rest)
 |.nil,_,n,rest,_,_=>by simp[tx,toC,pre_nil]
 |.chr c,hk,n,rest,hn,hr=>by
  simp only[KOk] at hk
  simp only[tx,List.length_cons,List.length_nil] at hn
  obtain⟨m,rfl⟩:∃ m,n=m+3:=⟨n-3,by omega⟩
  have ha:pAtom (m+1) (c::rest)=.ok ([],Sx.inSpan c.toNat c.toNat) rest:=by
   rcases hk with rfl|rfl|rfl<;>simp[Sx.pAtom]
  have hb:begins (c::rest)=true:=by rcases hk with rfl|rfl|rfl<;>rfl
  have:=pChain_part hb (pPart_at ha (pCounts_no (n:=rest.length) hr))
  simpa [tx,toC] using this
 |.nota,_,n,rest,hn,hr=>by
  simp only[tx,List.length_cons,List.length_nil] at hn
  obtain⟨m,rfl⟩:∃ m,n=m+3:=⟨n-3,by omega⟩
  have ha:pAtom (m+1) (91::94::97::93::rest)=.ok ([],nS) rest:=by
   simp[Sx.pAtom,Sx.pClass,Sx.pItems,Sx.pItem,Sx.pItemByte,Sx.pPlainItem,Sx.pRange]
   rfl
  have:=pChain_part (r:=91::94::97::93::rest) rfl (pPart_at ha (pCounts_no (n:=rest.length) hr))
  simpa [tx,toC] using this
 |.cat x y,hk,n,rest,hn,hr=>by
  simp only[KOk] at hk
  simp only[tx,List.length_append] at hn
  have h1:=toC_len x
  simp only[tx,List.append_assoc,toC]
  rw[pChain_tx x hk.1 n _ (by omega) (noC_tx y hk.2 hr),pChain_tx y hk.2 _ rest (by omega) hr,pre_pre]
  congr 2
  simp;omega
 |.g1 x cs,hk,n,rest,hn,hr=>by
  simp only[KOk] at hk
  simp only[tx,List.length_cons,List.length_append] at hn
  have h1:=toC_len x
  obtain⟨k,rfl⟩:∃ k,n=k+4:=⟨n-4,by omega⟩
  have hx:=pChain_tx x hk.1 k (41::(cs.flatMap txc++rest)) (by omega) (by simp[noC])
  obtain⟨j,hj⟩:∃ j,k-(toC x).length=j+1:=⟨k-(toC x).length-1,by omega⟩
  rw[hj,pChain_end (n:=j) (r:=41::(cs.flatMap txc++rest)) rfl] at hx
  simp only[pre,List.append_nil] at hx
  have hc:pChoices (k+1) (tx x++41::(cs.flatMap txc++rest))=.ok [toC x] (41::(cs.flatMap txc++rest)):=by
   simp[Sx.pChoices,hx]
  have ha:pAtom (k+2) (40::(tx x++41::(cs.flatMap txc++rest)))=.ok ([toC x],fun _=>false) (cs.flatMap txc++rest):=by
   simp[Sx.pAtom,hc]
  have hl:=txc_len cs
  have hcs:=pCounts_tx cs ((cs.flatMap txc++rest).length+1) hk.2 (by simp only[List.length_append];omega) hr
  have:=pChain_part (r:=40::(tx x++41::(cs.flatMap txc++rest))) (n:=k+3) rfl (pPart_at ha hcs)
  simpa [tx,toC] using this
 |.g2 x y cs,hk,n,rest,hn,hr=>by
  simp only[KOk] at hk
  simp only[tx,List.length_cons,List.length_append] at hn
  have h1:=toC_len x
  have h2:=toC_len y
  obtain⟨k,rfl⟩:∃ k,n=k+5:=⟨n-5,by omega⟩
  have hy:=pChain_tx y hk.2.1 k (41::(cs.flatMap txc++rest)) (by omega) (by simp[noC])
  obtain⟨j,hj⟩:∃ j,k-(toC y).length=j+1:=⟨k-(toC y).length-1,by omega⟩
  rw[hj,pChain_end (n:=j) (r:=41::(cs.flatMap txc++rest)) rfl] at hy
  simp only[pre,List.append_nil] at hy
  have hx:=pChain_tx x hk.1 (k+1) (124::(tx y++41::(cs.flatMap txc++rest))) (by omega) (by simp[noC])
  obtain⟨i,hi⟩:∃ i,k+1-(toC x).length=i+1:=⟨k-(toC x).length,by omega⟩
  rw[hi,pChain_end (n:=i) (r:=124::(tx y++41::(cs.flatMap txc++rest))) rfl] at hx
  simp only[pre,List.append_nil] at hx
  have hc:pChoices (k+2) (tx x++124::(tx y++41::(cs.flatMap txc++rest)))=.ok [toC x,toC y] (41::(cs.flatMap txc++rest)):=by
   simp[Sx.pChoices,hx,hy]
  have ha:pAtom (k+3) (40::(tx x++124::(tx y++41::(cs.flatMap txc++rest))))=.ok ([toC x,toC y],fun _=>false) (cs.flatMap txc++rest):=by
   simp[Sx.pAtom,hc]
  have hl:=txc_len cs
  have hcs:=pCounts_tx cs ((cs.flatMap txc++rest).length+1) hk.2.2 (by simp only[List.length_append];omega) hr
  have:=pChain_part (r:=40::(tx x++124::(tx y++41::(cs.flatMap txc++rest)))) (n:=k+4) rfl (pPart_at ha hcs)
  simpa [tx,toC] using this
def LK:KT→Lng
 |.nil=>lN
 |.chr c=>lS (Sx.inSpan c.toNat c.toNat)
 |.nota=>lS nS
 |.cat x y=>lCat (LK x) (LK y)
 |.g1 x cs=>cntsL (LK x) (cs.map cnt).reverse
 |.g2 x y cs=>cntsL (lAlt (LK x) (LK y)) (cs.map cnt).reverse
def nstK:KT→Nat
 |.cat x y=>max (nstK x) (nstK y)
 |.g1 x _=>1+nstK x
 |.g2 x y _=>1+max (nstK x) (nstK y)
 |_=>0
theorem nestC_append (a b:List Prt):Sx.nestC (a++b)=max (Sx.nestC a) (Sx.nestC b):=by
 induction a with
 |nil=>simp[Sx.nestC]
 |cons p a ih=>simp[Sx.nestC,ih,Nat.max_assoc]
theorem nestC_toC:∀ t,Sx.nestC (toC t)=nstK t
 |.nil=>by simp[toC,Sx.nestC,nstK]
 |.chr c=>by simp[toC,Sx.nestC,Sx.nestP,nstK]
 |.nota=>by simp[toC,Sx.nestC,Sx.nestP,nstK]
 |.cat x y=>by simp[toC,nestC_append,nestC_toC x,nestC_toC y,nstK]
 |.g1 x cs=>by simp[toC,Sx.nestC,Sx.nestP,Sx.nestCs,nestC_toC x,nstK]
 |.g2 x y cs=>by simp[toC,Sx.nestC,Sx.nestP,Sx.nestCs,nestC_toC x,nestC_toC y,nstK]
open Sx (Prt Cnt Res pChain pChoices begins tkR tkB)
def endP (b:Bool):List UInt8:=if b then[36] else[]
def begP (f:Bool):List UInt8:=if f then[94] else[]
theorem begins_end (b:Bool):begins (endP b)=false:=by cases b<;>rfl
theorem noC_end (b:Bool):noC (endP b):=by cases b<;>simp[endP,noC]
theorem pChoices_one {t:KT} (hk:KOk t) {n:Nat} (hn:3*(tx t).length+2≤n) (b:Bool):pChoices n (tx t++endP b)=.ok [toC t] (endP b):=by
 have h1:=toC_len t
 obtain⟨k,rfl⟩:∃ k,n=k+1:=⟨n-1,by omega⟩
 have hx:=pChain_tx t hk k (endP b) (by omega) (noC_end b)
 obtain⟨j,hj⟩:∃ j,k-(toC t).length=j+1:=⟨k-(toC t).length-1,by omega⟩
 rw[hj,pChain_end (n:=j) (begins_end b)] at hx
 simp only[pre,List.append_nil] at hx
 cases b
 ·simp only[Sx.pChoices,hx];rfl
 ·simp only[Sx.pChoices,hx];rfl
theorem tk_beg (f:Bool) {l:List UInt8} (h:∀ c r,l=c::r→c≠94):tkR 94 (begP f++l)=l∧tkB 94 (begP f++l)=f:=by
 cases f with
 |true=>exact⟨by simp[begP,tkR],by simp[begP,tkB]⟩
 |false=>
  cases l with
  |nil=>exact⟨by simp[begP,tkR],by simp[begP,tkB]⟩
  |cons c r=>have:=h c r rfl;exact⟨by simp[begP,tkR,this],by simp[begP,tkB,this]⟩
theorem tk_end (b:Bool):tkR 36 (endP b)=[]∧tkB 36 (endP b)=b:=by cases b<;>exact⟨by simp[endP,tkR],by simp[endP,tkB]⟩
theorem tx_no94:∀ t,KOk t→∀ {rest:List UInt8},(∀ c r,rest=c::r→c≠94)→∀ c r,tx t++rest=c::r→c≠94
 |.nil,_,rest,h=>h
 |.chr d,hk,rest,_=>fun c r e=>by
  simp only[KOk] at hk
  simp[tx] at e
  rw[←e.1]
  rcases hk with rfl|rfl|rfl<;>decide
 |.nota,_,rest,_=>fun c r e=>by simp[tx] at e;rw[←e.1];decide
 |.cat x y,hk,rest,h=>by
  simp only[KOk] at hk
  simp only[tx,List.append_assoc]
  exact tx_no94 x hk.1 (tx_no94 y hk.2 h)
 |.g1 x cs,_,rest,_=>fun c r e=>by simp[tx] at e;rw[←e.1];decide
 |.g2 x y cs,_,rest,_=>fun c r e=>by simp[tx] at e;rw[←e.1];decide
theorem end_no94 (b:Bool):∀ c r,endP b=c::r→c≠94:=by
 cases b<;>intro c r e<;>simp[endP] at e
 rw[←e.1];decide
theorem readP_one {t:KT} (hk:KOk t) (f b:Bool):Sx.readP (begP f++(tx t++endP b))=.ok ⟨f,b,[toC t]⟩ []:=by
 obtain⟨h1,h2⟩:=tk_beg f (tx_no94 t hk (end_no94 b))
 obtain⟨h3,h4⟩:=tk_end b
 unfold Sx.readP
 rw[h1,h2,pChoices_one hk (by simp;omega) b]
 simp[h3,h4]
def endsAt (f:Bool) (L:Lng) (u:List UInt8):Prop:=∃ v,Suf f (u.map UInt8.toNat) v∧L v
theorem compM_ptn {s:List UInt8}{f b:Bool}{cs:List (List Prt)} (h:Sx.readP s=.ok ⟨f,b,cs⟩ []) (hl:s.length≤200) (hn:Sx.nestCs cs≤20) :
  (compM s 200=.inl (4,0)∧searchM ⟨f,b,cs⟩ 200=none)∨∃ t n k,compM s 200=.inr (tbOf (leastM t))∧TnFull n k t∧n≤200∧k≤256∧t.front=f∧t.back=b∧∀ u,ac t (rnT t 0 u)=true↔endsAt f (LCs cs) u:=by
 have hT:=readP_tr h
 unfold compM
 rw[if_neg (by omega),if_neg (by omega),h]
 simp only
 rw[if_neg (by omega)]
 unfold compT
 simp only[show(200:Int).toNat=200 from rfl]
 cases hs:searchM ⟨f,b,cs⟩ 200 with
 |none=>exact .inl ⟨rfl,rfl⟩
 |some t=>
  obtain⟨n,k,h1,h2,h3⟩:=searchM_full (by omega) hs
  refine .inr ⟨t,n,k,rfl,h3,h1,h2,?_,?_,fun u=>searchM_run hT hs u⟩
  ·unfold searchM at hs
   split at hs
   ·simp at hs
   ·split at hs
    ·simp at hs
    ·simp at hs;rw[←hs]
  ·unfold searchM at hs
   split at hs
   ·simp at hs
   ·split at hs
    ·simp at hs
    ·simp at hs;rw[←hs]
open Go.RowKit
inductive HT where
 |lf (k l m:Nat)
 |bi (k l m:Nat) (x y:HT)
 |un (k l m:Nat) (x:HT)
def kt:HT→KT
 |.lf k l _=>if k≤1 then .chr (UInt8.ofNat (97+l)) else .nota
 |.bi k _ _ x y=>if k=3 then .cat (kt x) (kt y) else .g2 (kt x) (kt y) []
 |.un k l m x=>if k=5 then .g1 (kt x) [.star] else if k=6 then .g1 (kt x) [.opt] else .g1 (kt x) [.br l (l+m)]
def HTOk:Nat→HT→Prop
 |_,.lf k l m=>k≤2∧l≤2∧m≤2
 |0,_=>False
 |d+1,.bi k l m x y=>(k=3∨k=4)∧l≤2∧m≤2∧HTOk d x∧HTOk d y
 |d+1,.un k l m x=>(k=5∨k=6∨k=7)∧l≤2∧m≤2∧HTOk d x
abbrev trB (k l m:Nat) (x y:Option Addr):Obj:=.cells #[.int .i64 k,.int .i64 l,.int .i64 m,.pointer x,.pointer y] 124
def HTAt (lo:Nat) (w:World):Nat→HT→Prop
 |p,.lf k l m=>lo≤p∧w.heap[p]?=some (trB k l m none none)
 |p,.bi k l m x y=>lo≤p∧∃ px py,w.heap[p]?=some (trB k l m (some ⟨px,0,none⟩) (some ⟨py,0,none⟩))∧HTAt lo w px x∧HTAt lo w py y
 |p,.un k l m x=>lo≤p∧∃ px,w.heap[p]?=some (trB k l m (some ⟨px,0,none⟩) none)∧HTAt lo w px x
theorem some_lt {w:World}{p:Nat}{o:Obj} (h:w.heap[p]?=some o):p<w.heap.size:=(Array.getElem?_eq_some_iff.1 h).1
theorem HTAt.keep {lo:Nat}{w w':World} (hk:∀ b,lo≤b→b<w.heap.size→w'.heap[b]?=w.heap[b]?):∀ {t:HT}{p:Nat},HTAt lo w p t→HTAt lo w' p t
 |.lf k l m,p,h=>by
  simp only[HTAt] at h ⊢
  exact⟨h.1,by rw[hk p h.1 (some_lt h.2)];exact h.2⟩
 |.bi k l m x y,p,h=>by
  simp only[HTAt] at h ⊢
  obtain⟨h1,px,py,h2,h3,h4⟩:=h
  exact⟨h1,px,py,by rw[hk p h1 (some_lt h2)];exact h2,h3.keep hk,h4.keep hk⟩
 |.un k l m x,p,h=>by
  simp only[HTAt] at h ⊢
  obtain⟨h1,px,h2,h3⟩:=h
  exact⟨h1,px,by rw[hk p h1 (some_lt h2)];exact h2,h3.keep hk⟩
theorem HTAt.below {lo:Nat}{w w':World}{t:HT}{p:Nat} (h:HTAt lo w p t) (hb:Below w.heap.size w w'):HTAt lo w' p t:=h.keep (fun b _ h2=>hb.block b h2)
theorem HTAt.mono {lo lo':Nat}{w:World} (hl:lo'≤lo):∀ {t:HT}{p:Nat},HTAt lo w p t→HTAt lo' w p t
 |.lf k l m,p,h=>by
  simp only[HTAt] at h ⊢
  exact⟨by omega,h.2⟩
 |.bi k l m x y,p,h=>by
  simp only[HTAt] at h ⊢
  obtain⟨h1,px,py,h2,h3,h4⟩:=h
  exact⟨by omega,px,py,h2,h3.mono hl,h4.mono hl⟩
 |.un k l m x,p,h=>by
  simp only[HTAt] at h ⊢
  obtain⟨h1,px,h2,h3⟩:=h
  exact⟨by omega,px,h2,h3.mono hl⟩
theorem kt_ok:∀ {d:Nat}{t:HT},HTOk d t→KOk (kt t)
 |d,.lf k l m,h=>by
  simp only[HTOk] at h
  simp only[kt]
  split
  ·have:l=0∨l=1∨l=2:=by omega
   simp only[KOk]
   rcases this with rfl|rfl|rfl<;>decide
  ·simp[KOk]
 |d+1,.bi k l m x y,h=>by
  simp only[HTOk] at h
  simp only[kt]
  split<;>simp only[KOk]<;>exact⟨kt_ok h.2.2.2.1,by first|exact kt_ok h.2.2.2.2|exact⟨kt_ok h.2.2.2.2,by simp⟩⟩
 |d+1,.un k l m x,h=>by
  simp only[HTOk] at h
  simp only[kt]
  split
  ·simp only[KOk];exact⟨kt_ok h.2.2.2,by simp[KcOk]⟩
  ·split
   ·simp only[KOk];exact⟨kt_ok h.2.2.2,by simp[KcOk]⟩
   ·simp only[KOk];exact⟨kt_ok h.2.2.2,by simp[KcOk];omega⟩
 |0,.bi k l m x y,h=>by simp[HTOk] at h
 |0,.un k l m x,h=>by simp[HTOk] at h
def szK:Nat→Nat
 |0=>4
 |d+1=>2*szK d+3
theorem szK_4:∀ d,4≤szK d
 |0=>by simp[szK]
 |d+1=>by have:=szK_4 d;simp[szK];omega
theorem tx_len:∀ {d:Nat}{t:HT},HTOk d t→(tx (kt t)).length≤szK d∧nstK (kt t)≤d
 |d,.lf k l m,h=>by
  have:=szK_4 d
  simp only[kt]
  split<;>simp[tx,nstK]<;>omega
 |d+1,.bi k l m x y,h=>by
  simp only[HTOk] at h
  have h1:=tx_len h.2.2.2.1
  have h2:=tx_len h.2.2.2.2
  simp only[kt]
  split<;>simp[tx,nstK,szK]<;>omega
 |d+1,.un k l m x,h=>by
  simp only[HTOk] at h
  have h1:=tx_len h.2.2.2
  have:=szK_4 d
  simp only[kt]
  split
  ·simp[tx,txc,nstK,szK];omega
  ·split<;>simp[tx,txc,nstK,szK]<;>omega
 |0,.bi k l m x y,h=>by simp[HTOk] at h
 |0,.un k l m x,h=>by simp[HTOk] at h
theorem ba_cat (a b:List UInt8):ba a++ba b=ba (a++b):=by
 apply ByteArray.ext
 simp[ByteArray.data_append]
theorem kconv1 (x:World) (g:Nat) (z:Int) (c:UInt8) (hz:z=c.toNat) (h:x.cell? ⟨g,0,none⟩=some (.int .u8 z)):(convert 73 9 (.slice (some ⟨g,0,none⟩) 1 1)).run Tryz.prog x=.ok (.string ⟨#[c]⟩) x:=by
 refine run_convert_bytes_back x _ _ _ _ 1 [c] Tryz.underlying73 und_byte und_str ?_
 intro j hj
 have:j=0:=by simpa using hj
 subst this
 simpa [Addr.add,hz] using h
theorem kdec_any (w:World) (n:Nat) (hn:n≤9) :
  Calls Tryz.prog 58 #[.int .i64 n] w fun e w'=>e=.returned (.string (ba [dg n]))∧Below w.heap.size w w':=by
 have hz:(48+(n:Int))=(dg n).toNat:=by simp[dg];omega
 have hcv:=fun x g h=>kconv1 x g (48+n) (dg n) hz h
 have HZ:Hid _:=hz
 clear hz
 go_enter Tryz.func58,Tryz.ntmps58
 go_wp2
 go_ret
 exact⟨rfl,(Below.refl _ _).alloc (Nat.le_refl _) _⟩
abbrev TxC (w:World) (p:Nat) (X:ByteArray):Prop:=∀ w',Below w.heap.size w w'→Calls Tryz.prog 28 #[.pointer (some ⟨p,0,none⟩)] w' fun e w''=>e=.returned (.string X)∧Below w'.heap.size w' w''
theorem text_chr (w:World) (p k l m:Nat) (hk:k=0∨k=1) (hl:l≤2) (h:w.heap[p]?=some (trB k l m none none)) :
  Calls Tryz.prog 28 #[.pointer (some ⟨p,0,none⟩)] w fun e w'=>e=.returned (.string (ba [UInt8.ofNat (97+l)]))∧Below w.heap.size w w':=by
 have hz:(97+(l:Int))=(UInt8.ofNat (97+l)).toNat:=by simp;omega
 obtain⟨c,hc⟩:∃ c,c=UInt8.ofNat (97+l):=⟨_,rfl⟩
 rw[←hc] at hz ⊢
 have hcv:=fun x g h=>kconv1 x g (97+l) c hz h
 clear hz hc
 obtain⟨p0,p1,p2,p3,p4⟩:=box5 h
 clear h p2 p3 p4
 rcases hk with rfl|rfl
 all_goals
  go_enter Tryz.func28,Tryz.ntmps28
  go_wp2
  go_ret
  exact⟨rfl,(Below.refl _ _).alloc (Nat.le_refl _) _⟩
theorem text_nota (w:World) (p l m:Nat) (h:w.heap[p]?=some (trB 2 l m none none)) :
  Calls Tryz.prog 28 #[.pointer (some ⟨p,0,none⟩)] w fun e w'=>e=.returned (.string (ba [91,94,97,93]))∧Below w.heap.size w w':=by
 obtain⟨p0,p1,p2,p3,p4⟩:=box5 h
 clear h p1 p2 p3 p4
 go_enter Tryz.func28,Tryz.ntmps28
 go_wp2
 go_ret
 exact⟨rfl,Below.refl _ _⟩
theorem text_cat (w:World) (p l m px py:Nat) (X Y:ByteArray) (h:w.heap[p]?=some (trB 3 l m (some ⟨px,0,none⟩) (some ⟨py,0,none⟩))) (hx:TxC w px X) (hy:TxC w py Y) (sX:X.size≤200) (sY:Y.size≤200) :
  Calls Tryz.prog 28 #[.pointer (some ⟨p,0,none⟩)] w fun e w'=>e=.returned (.string (X++Y))∧Below w.heap.size w w':=by
 have HP:Hid (∀ w',Below w.heap.size w w'→w'.heap[p]?=some (trB 3 l m (some ⟨px,0,none⟩) (some ⟨py,0,none⟩))):=fun w' hb=>by rw[hb.block p (some_lt h)];exact h
 obtain⟨p0,p1,p2,p3,p4⟩:=box5 h
 have a1:¬ 9223372036854775807<X.size+Y.size:=by omega
 clear h p1 p2
 go_enter Tryz.func28,Tryz.ntmps28
 go_wp2
 go_region_held3 (fun w'=>w'.cell? ⟨p,3,none⟩=some (.pointer (some ⟨px,0,none⟩))∧w'.cell? ⟨p,4,none⟩=some (.pointer (some ⟨py,0,none⟩))) (go_keep)
  (first|(have:=hmark;go_at_call 28;refine(hy _ HB3.out).mono ?_;rintro e w4 ⟨rfl,l4⟩;have HB4:Hid (Below w.heap.size w w4):=HB3.out.trans (l4.mono HB3.out.size);obtain⟨-,-,-,z3,z4⟩:=box5 (HP.out w4 HB4.out))|(go_at_call 28;refine(hx _ (Below.refl _ _).drew).mono ?_;rintro e w3 ⟨rfl,l3⟩;have hmark:True:=trivial;have HB3:Hid (Below w.heap.size w w3):=(Below.refl _ _).drew.trans (l3.mono (Nat.le_refl _));obtain⟨-,-,-,y3,y4⟩:=box5 (HP.out w3 HB3.out);clear l3))
 go_wp2
 go_ret
 exact⟨rfl,HB4.out⟩
theorem text_alt (w:World) (p l m px py:Nat) (X Y:ByteArray) (h:w.heap[p]?=some (trB 4 l m (some ⟨px,0,none⟩) (some ⟨py,0,none⟩))) (hx:TxC w px X) (hy:TxC w py Y) (sX:X.size≤200) (sY:Y.size≤200) :
  Calls Tryz.prog 28 #[.pointer (some ⟨p,0,none⟩)] w fun e w'=>e=.returned (.string (ba [40]++X++ba [124]++Y++ba [41]))∧Below w.heap.size w w':=by
 have HP:Hid (∀ w',Below w.heap.size w w'→w'.heap[p]?=some (trB 4 l m (some ⟨px,0,none⟩) (some ⟨py,0,none⟩))):=fun w' hb=>by rw[hb.block p (some_lt h)];exact h
 obtain⟨p0,p1,p2,p3,p4⟩:=box5 h
 have a1:¬ 9223372036854775807<1+X.size:=by omega
 have a2:¬ 9223372036854775807<1+X.size+1:=by omega
 have a3:¬ 9223372036854775807<1+X.size+1+Y.size:=by omega
 have a4:¬ 9223372036854775807<1+X.size+1+Y.size+1:=by omega
 clear h p1 p2
 go_enter Tryz.func28,Tryz.ntmps28
 go_wp2
 go_region_held3 (fun w'=>w'.cell? ⟨p,3,none⟩=some (.pointer (some ⟨px,0,none⟩))∧w'.cell? ⟨p,4,none⟩=some (.pointer (some ⟨py,0,none⟩))) (go_keep)
  (first|(have:=hmark;go_at_call 28;refine(hy _ HB3.out).mono ?_;rintro e w4 ⟨rfl,l4⟩;have HB4:Hid (Below w.heap.size w w4):=HB3.out.trans (l4.mono HB3.out.size);obtain⟨-,-,-,z3,z4⟩:=box5 (HP.out w4 HB4.out))|(go_at_call 28;refine(hx _ (Below.refl _ _).drew).mono ?_;rintro e w3 ⟨rfl,l3⟩;have hmark:True:=trivial;have HB3:Hid (Below w.heap.size w w3):=(Below.refl _ _).drew.trans (l3.mono (Nat.le_refl _));obtain⟨-,-,-,y3,y4⟩:=box5 (HP.out w3 HB3.out);clear l3))
 go_wp2
 go_ret
 exact⟨rfl,HB4.out⟩
theorem text_one (w:World) (p k l m px:Nat) (hk:k=5∨k=6) (X:ByteArray) (h:w.heap[p]?=some (trB k l m (some ⟨px,0,none⟩) none)) (hx:TxC w px X) (sX:X.size≤200) :
  Calls Tryz.prog 28 #[.pointer (some ⟨p,0,none⟩)] w fun e w'=>e=.returned (.string (ba [40]++X++ba [41,if k=5 then 42 else 63]))∧Below w.heap.size w w':=by
 obtain⟨p0,p1,p2,p3,p4⟩:=box5 h
 have a1:¬ 9223372036854775807<1+X.size:=by omega
 have a2:¬ 9223372036854775807<1+X.size+2:=by omega
 clear h p1 p2 p4
 rcases hk with rfl|rfl
 all_goals
  go_enter Tryz.func28,Tryz.ntmps28
  go_wp2_with (go_at_call 28;refine(hx _ (Below.refl _ _)).mono ?_;rintro e w3 ⟨rfl,l3⟩;have HB3:Hid (Below w.heap.size w w3):=l3;clear l3)
  go_ret
  exact⟨rfl,HB3.out⟩
end Go.Proofs.YtbjabpodkaokjaaGreatDoor
