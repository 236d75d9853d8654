import Derived.Test.YtbjabpodkaokjaaGreatDoorCC25
import Derived.Test.YtbjabpodkaokjaaGreatDoorCC24
set_option linter.all false
set_option maxHeartbeats 4000000
set_option maxRecDepth 100000
open List Nat Go.World Go.Proofs.Tryz
namespace Go.Proofs.YtbjabpodkaokjaaGreatDoor
open Go.RowKit
variable {w:World}{n:Nat}{s:ByteArray}{limit lo:Nat}{f:Nat->Nat}{m:Nat}{W:World}{us:List Value}{g K:Nat}{T:Tn}{tk:Nat}{rows:List (List Nat)}{q:Nat}{v:Value}{c:Nat}{kx fo:Nat->Nat}{R:Nat}{t:Tn}{sp:Nat}{w':World}
def G0 (h:w.rangeAt g 0 (nL f))  (hc:c<256):w.cell? ⟨g,c,none⟩=some (.int .i64 (f c:Nat)):=by
 have:=h c _ (jJ f c hc)
 rwa [Nat.zero_add] at this
def LF (f:Nat->Nat):(prog.info? 190).map (·.size)=some (nL f).toArray.size:=by
 obtain⟨i,hi,e,b,d⟩:=info_parts Tryz.infoNI;rw[hi,Option.map_some,b];simp[jI]
def KS (f:Nat->Nat):(nL f).toArray.all (·.oneCell')=true:=all_oneCell_toArray (λv hv=>by
 unfold nL at hv;obtain⟨k,_,rfl⟩:=mem_map.1 hv
 rfl)
def G1 {f k:Nat->Nat} (h:w.heap[g]?=some (.cells (nL f).toArray 190)):w.there g 0 (nL k).toArray.size:=λj hj=>by
 have b:j<256:=by simpa [jI] using hj
 have:=jJ f j b;simp only[cell?,frozen?,h,Nat.zero_add];simp[this]
def KT (key:Nat->List UInt8) (K m:Nat) (hm:m=(iF key K).length):((iF key K).map λcol=>(List.range K).getD (bU ((List.range K).map key) col) 0)=(List.range m).map (rJ (pp key K) K 0):=by
 refine ext_getElem (by simp[hm]) λk h1 h2=>?_
 have b:k<(iF key K).length:=by simpa using h1
 obtain⟨f1,f2⟩:=Cd (key:=key) (K:=K) b;rw[getElem_map,getElem_map,getElem_range,f1];rw[f1] at f2;rw[getD_at (by rw[length_range];exact f2),getElem_range]
def D2 (_h:ej n 256 T) (hc:T.cls=List.range 256)  (hk:kx=pp (kS T) 256) (hm:m=(iF (kS T) 256).length):iZ T (bD T)=bG (bH T (bD T)) ((List.range m).map (rJ kx 256 0)) 256 258 [bk T 0] 0 []:=by
 have e:fD T.cls (bh T (bD T))=(List.range m).map (rJ kx 256 0):=by
  unfold fD;rw[Cc hc,rG hc,hc,hk];exact KT _ 256 _ hm
 have e2:iZ T (bD T)=bG (bH T (bD T)) (fD T.cls (bh T (bD T))) 256 258 [bk T 0] 0 []:=rfl;rw[e2,e]
section
variable {α:Type} [DecidableEq α]
def sL (st:Nat->α) (met:List α) (k:Nat):List α:=ai met ((List.range k).map st)
theorem kT (st:Nat->α) (met:List α) (k:Nat):sL st met (k+1)=aq (sL st met k) (st k):=by
 unfold sL;rw[range_succ,map_append,cO];rfl
theorem vS (st:Nat->α) (met:List α) (k:Nat):∀ d,sL st met k <+: sL st met (k+d)
 |0=>prefix_refl _
 |d+1=>(vS st met k d).trans (by rw[show k+(d+1)=k+d+1 by omega,kT];exact lu _ _)
def Jf (st:Nat->α) (met:List α)  (hc:c<K):bU (sL st met K) (st c)=bU (aq (sL st met c) (st c)) (st c):=by
 rw[<-kT];have:=vS st met (c+1) (K-(c+1));rw[show c+1+(K-(c+1))=K by omega] at this;exact lv this (by rw[kT];exact f_.2 (.inr rfl))
def G4 {step:α->Nat->α}{met:List α}{R:Option (List α×List (List Nat))}{q:α}{st:Nat->α} (h:bG step ((List.range m).map fo) limit (258-tk) met tk rows=R) (ht:tk<=256) (hq:met[tk]?=some q) (hs:∀ k,k<m->st k=step q (fo k)):(if limit<(sL st met m).length then none else bG step ((List.range m).map fo) limit (258-(tk+1)) (sL st met m) (tk+1) (rows++[(List.range m).map λc=>bU (sL st met m) (st c)]))=R:=by
 obtain⟨fu,h1,h2⟩:∃ fu,258-tk=fu+1/\258-(tk+1)=fu:=⟨258-(tk+1),ω,rfl⟩
 rw[h1] at h;rw[h2];simp only[bG,hq] at h;have e1:((List.range m).map fo).map (step q)=(List.range m).map st:=by simp_all
 rw[e1] at h;have e:((List.range m).map λc=>bU (sL st met m) (st c))=((List.range m).map st).map (bU (sL st met m)):=by rw[map_map];rfl
 rw[e];exact h
end
def Jg {α:Type} [DecidableEq α] {step:α->Nat->α}{met:List α}{x:List α×List (List Nat)} (h:bG step ((List.range m).map fo) limit (258-tk) met tk rows=some x) (ht:tk<=256) (hq:tk=met.length):x=(met,rows):=by
 obtain⟨fu,h1⟩:∃ fu,258-tk=fu+1:=⟨258-(tk+1),ω⟩
 rw[h1] at h;simp only[bG,getElem?_eq_none (show met.length<=tk by omega)] at h;injection h with h;exact h.symm
def kU {a0 a1 a2 a3 a4 a5:Value}{t:TypeId} (h:W.heap[R]?=some (.cells #[a0,a1,a2,a3,a4,a5] t)) (b0 b1 b2 b3 b4 b5:Value):((((((W.setCell ⟨R,0,none⟩ b0).setCell ⟨R,1,none⟩ b1).setCell ⟨R,2,none⟩ b2).setCell ⟨R,3,none⟩ b3).setCell ⟨R,4,none⟩ b4).setCell ⟨R,5,none⟩ b5).heap[R]?=some (.cells #[b0,b1,b2,b3,b4,b5] t):=by
 rw[ap (ap (ap (ap (ap (ap h)))))];rfl
def D3 (h:ej n 256 T) (hn:n<=200) (hc:T.cls=List.range 256) {x:List UInt8×List (List Nat)}{ms:List Nat} (hL:aG T=⟨T.front,T.back,(bh T (bD T)).map (bU (ai [] (bh T (bD T)))),x.1.map λb=>T.acc.getD ((bD T).idxOf b) false,x.2⟩) (hx:x=(ms.map (bk T),rows)) (hm:∀ q∈ms,q<n):(aG T).cls=(List.range 256).map (pp (kS T) 256)/\(aG T).acc=ms.map (ac T)/\(aG T).next=rows:=by
 rw[hL,hx];refine⟨I6 hc,?_,rfl⟩;show(ms.map (bk T)).map _=_;rw[map_map];exact map_congr_left (λq hq=>I4 h hn (hm q hq))
def KU {G:Nat} (K:Nat) (h:∀ c,c<K->W.cell? ⟨G,c,none⟩=some (.int .u8 (kx c:Int))/\kx c<256):(convert 73 9 (.slice (some ⟨G,0,none⟩) K K)).run prog W=.ok (.string (ba ((List.range K).map λc=>UInt8.ofNat (kx c)))) W:=by
 have:=run_convert_bytes_back (P:=prog) W 73 9 5 ⟨G,0,none⟩ K ((List.range K).map λc=>UInt8.ofNat (kx c)) underlying73 mV pC (λj hj=>by
  have h1:j<K:=by simpa using hj
  obtain⟨h2,h3⟩:=h j h1;have ha:(⟨G,0,none⟩:Addr).add j=⟨G,j,none⟩:=by unfold Addr.add;split<;>simp_all
  rw[ha,h2];simp only[getElem_map,getElem_range]
  rw[UInt8.toNat_ofNat',mod_eq_of_lt ω])
 rw[length_map,length_range] at this;exact this
section
variable {ops:Array Oper}{rest:List Oper}{o:Oper}{a:Act}{w:World}{K:Act->World->Prop}{Q:Exit->Act->World->Prop}{E:Prop}
def nj (hg:o.guard=none) (s x:Operand) (hop:o.op=Op.call {callee:=Callee.builtin Builtin.append,args:=#[s,x],argTypes:=#[31,31]}) {u1:Option Addr}{u2 u3:Nat} (hs:a.eval s=v) (hx:a.eval x=.slice (some ⟨q,0,none⟩) 1 1) (hown:w.ownsRow lo 40 1 v n us) (hq:w.heap[q]?=some (.cells #[.slice u1 u2 u3] 40)) (hn:n<=1000) (hlo:lo<=w.heap.size)
  (h:∀ v' w',w'.ownsRow lo 40 1 v' (n+1) (us++[.slice u1 u2 u3])->w.grownBy w' v.ownBlock->(v'.ownBlock=v.ownBlock\/v'.ownBlock=some w.heap.size)->wpList prog ops Q rest (a.put o.dst v') w') :
  wpList prog ops Q (o::rest) a w:=by
 obtain⟨i,hi,d,e,b⟩:=info_parts Tryz.infoF;refine wpList_append_own_at w hg s x _ hop lo _ i _ 1 24 underlying31 hi d e b rfl Zr v n us hs hown ⟨q,0,none⟩ 1 1 [.slice u1 u2 u3] hx rfl (λj u hj=>?_) (λu hu=>?_) Zs ω hlo (λv' w' h1 h2 _ h4=>h v' w' h1 h2 h4)
 .match j,hj with
  |0,hj=>simp at hj;subst hj;simp[Addr.add,cell?,hq]
 .simp at hu;subst hu;rfl
def kV (hg:o.guard=none) (s x:Operand) (hop:o.op=Op.call {callee:=Callee.builtin Builtin.append,args:=#[s,x],argTypes:=#[30,30]}) {b:Bool} (hs:a.eval s=v) (hx:a.eval x=.slice (some ⟨q,0,none⟩) 1 1) (hown:w.ownsRow lo 4 1 v n us) (hq:w.heap[q]?=some (.cells #[.bool b] 4)) (hn:n<=1000) (hlo:lo<=w.heap.size)
  (hK:∀ v' w',w'.ownsRow lo 4 1 v' (n+1) (us++[.bool b])->w.grownBy w' v.ownBlock->(v'.ownBlock=v.ownBlock\/v'.ownBlock=some w.heap.size)->K (a.put o.dst v') w') :
  if Region.wanted o (yielded ops a.tmps)=true then Oper.wp prog o a w K Q else E:=by
 obtain⟨i,hi,e,h,d⟩:=info_parts Tryz.infoQB
 exact Sx.jQ hg s x _ hop lo _ i _ 1 1 underlying30 hi e h d rfl Zr v n us hs hown ⟨q,0,none⟩ 1 1 [.bool b] hx rfl (λj u hj=>by
  match j,hj with
  |0,hj=>simp at hj;subst hj;simp[Addr.add,cell?,hq]) (λu hu=>by simp at hu;subst hu;rfl) Zs ω hlo hK
end
def G5 {α β:Type} (f:α->β) {ms ms':List α} (h:ms <+: ms')  (ht:tk<ms.length):(ms'.take (tk+1)).map f=(ms.take tk).map f++[f ms[tk]]:=by
 obtain⟨r,rfl⟩:=h;rw[take_append_of_le_length ω,Zl ht,map_append];rfl
variable (w n T) in
def AQ (hT:ej n 256 T) (hn:n<=200) (hc:T.cls=List.range 256) (ga V ca cv:Nat) (hca:n<=ca) (hcv:n<=cv) (hA:∀ i,i<n->w.cell? ⟨ga,i,none⟩=some (.bool (ac T i))) (hV:∀ i z,i<n->z<256->w.cell? ⟨V,i*256+z,none⟩=some (.int .i64 (nx T i z:Nat))) :
  Calls prog 49 #[.slice (some ⟨ga,0,none⟩) n ca,.slice (some ⟨V,0,none⟩) n cv] w λe w'=>∃ va vn us B,e=.returned (.agg #[.bool false,.bool false,.int .i64 0,.string (ba ((aG T).cls.map UInt8.ofNat)),va,vn])/\Below w.heap.size w w'/\w.heap.size<=B/\w'.ownsRow B 4 1 va (aG T).acc.length ((aG T).acc.map Value.bool)/\w'.ownsRow B 40 1 vn (aG T).next.length us/\∀ i (hi:i<us.length),IL B w' us[i] ((aG T).next.getD i []):=by
 have n7:=hT.ok.n1;have d6:Hid (ej n 256 T/\T.cls=List.range 256):=⟨hT,hc⟩
 have HA:Hid (∀ W,Below w.heap.size w W->∀ i,i<n->W.cell? ⟨ga,i,none⟩=some (.bool (ac T i))):=λW b i hi=>(b.cell (p:=⟨ga,i,none⟩) (aF (hA i hi))).trans (hA i hi)
 have HV:Hid (∀ W,Below w.heap.size w W->∀ i z,i<n->z<256->W.cell? ⟨V,i*256+z,none⟩=some (.int .i64 (nx T i z:Nat))):=λW b i z hi hz=>(b.cell (p:=⟨V,i*256+z,none⟩) (aF (hV i z hi hz))).trans (hV i z hi hz)
 have HX:Hid (∀ i z,i<n->z<256->nx T i z<n):=λi z hi hz=>hT.ok.nx_lt hi hz
 have p6:Hid (∀ W,Below w.heap.size w W->Calls prog 93 #[.slice (some ⟨ga,0,none⟩) n ca,.slice (some ⟨V,0,none⟩) n cv] W λe w'=>∃ A N gs M,e=.returned (.slice (some ⟨A,0,none⟩) n N)/\n<=N/\MX W.heap.size W w' n A gs M/\∀ a b,a<n->b<n->(M a b=false↔bk T a=bk T b)):=λW b=>by
  refine(DU W n ⟨n7,hn⟩ ga V ca cv hca hcv (ac T) (nx T) (HA.out W b) (HV.out W b) HX.out (λa b=>bk T a=bk T b) (λ_ _ e=>e.symm) (λa b ha hb e=>(iO hT.ok hn ha hb e).1) (λa b z ha hb hz e=>(iO hT.ok hn ha hb e).2 z hz)).mono ?_;rintro e w' ⟨A,N,gs,M,h1,h2,h3,h4,h5,h6⟩;exact⟨A,N,gs,M,h1,h2,h3,λa b ha hb=>KL hT hn h4 h5 h6 ha hb⟩
 obtain⟨kx,k4⟩:=zx (pp (kS T) 256);obtain⟨m,hm⟩:=zx ((iF (kS T) 256).length);have u7:m<=256:=by rw[hm];exact Ca _ _
 have a6:Hid (kx=pp (kS T) 256/\m=(iF (kS T) 256).length):=⟨k4,hm⟩
 obtain⟨cs,b4⟩:=zx (nL kx);have u8:Hid (cs=nL kx):=b4;have h7:Hid ((∀(W:World) (g:Nat) (f:Nat->Nat),W.heap[g]?=some (.cells (nL f).toArray 190)->W.there g 0 cs.toArray.size)/\(prog.info? 190).map (·.size)=some cs.toArray.size/\cs.toArray.all (·.oneCell')=true):=⟨λW g f h=>by rw[b4];exact G1 h,by rw[b4];exact LF kx,by rw[b4];exact KS kx⟩
 have p8:Hid (∀ W,Below w.heap.size w W->∀ A N gs M,n<=N->∀ W0,MX W0.heap.size W0 W n A gs M->(∀ a b,a<n->b<n->(M a b=false↔bk T a=bk T b))->Calls prog 94 #[.slice (some ⟨V,0,none⟩) n cv,.slice (some ⟨A,0,none⟩) n N] W λe w'=>e=.returned (.tuple #[.agg cs.toArray,.int .i64 (m:Nat)])/\Below W.heap.size W w'):=λW b A N gs M c6 W0 a1 hM=>by
  rw[b4,k4,hm];refine AM W n ⟨n7,hn⟩ V A cv N hcv c6 gs (nx T) M (HV.out W b) HX.out (λi hi=>?_) (kS T) (λc d hc hd=>I3 hT hn hM hc hd);have hg:i<gs.length:=by rw[a1.gl];exact hi
  exact⟨gs[i],a1.oc i hg,λk hk=>(a1.nw i hg).c k hk⟩
 clear hT hc hA hV k4 hm b4
 go_enter func49,ntmps49
 go_upto_region 1 with(fail)
 obtain⟨W1,f0⟩:=zx (w.alloc (.cells #[.bool false,.bool false,.int .i64 0,.string ⟨#[]⟩,.slice none 0 0,.slice none 0 0] 33));obtain⟨R,hR⟩:=zx w.heap.size;have f5:Hid (Below w.heap.size w W1):=by show Below _ _ _;rw[f0];exact ZA
 have m0:Hid (W1.heap[R]?=some (.cells #[.bool false,.bool false,.int .i64 0,.string ⟨#[]⟩,.slice none 0 0,.slice none 0 0] 33)):=by show _=_;rw[f0,hR];exact Za w _
 have v0:Hid (R=w.heap.size):=hR;rw[<-f0,<-hR];clear f0 hR
 go_upto_region 2 with(go_at_call 93;refine(p6.out W1 f5.out).mono ?_;rintro e w2 ⟨A,N,gs,M,rfl,c6,a1,hM⟩;have d5:Hid (MX W1.heap.size W1 w2 n A gs M):=a1;have HM:Hid (∀ a b,a<n->b<n->(M a b=false↔bk T a=bk T b)):=hM;have f8:Hid (Below w.heap.size w w2):=f5.out.trans (a1.bl.mono f5.out.size);have j6:Hid (w2.heap[R]?=_):=(a1.bl.block R (ZC m0.out)).trans m0.out;clear a1 hM)
 have p3:Hid (∀ W,Below w2.heap.size w2 W->∀ i,i<n->∃ g,W.cell? ⟨A,i,none⟩=some (.slice (some ⟨g,0,none⟩) n n)/\∀ k,k<n->W.cell? ⟨g,k,none⟩=some (.bool (M i k))):=λW b i hi=>by
  have hg:i<gs.length:=by rw[d5.out.gl];exact hi
  have h1:=d5.out.oc i hg;refine⟨gs[i],(b.cell (p:=⟨A,i,none⟩) (aF h1)).trans h1,λk hk=>?_⟩;have h2:=(d5.out.nw i hg).c k hk;exact(b.cell (p:=⟨gs[i],k,none⟩) (aF h2)).trans h2
 go_upto_region 3 with(first|(go_at_call 94;refine(p8.out w2 f8.out A N gs M c6 W1 d5.out HM.out).mono ?_;rintro e w3 ⟨rfl,m8⟩;have l8:Hid (Below w2.heap.size w2 w3):=m8;clear m8)|(refine ed rfl rfl _ rfl w3.heap.size rfl ?_;obtain⟨W4,f6⟩:=zx (w3.alloc (.cells (nL λ_=>0).toArray 190));obtain⟨R6,a7⟩:=zx w3.heap.size;rw[<-f6,<-a7];have j4:Hid (W4=w3.alloc (.cells (nL λ_=>0).toArray 190)/\R6=w3.heap.size):=⟨f6,a7⟩;have j7:Hid (W4.heap[R6]?=some (.cells (nL λ_=>0).toArray 190)):=(by show _=_;rw[f6,a7];exact Za w3 _);clear f6 a7)|(refine wpList_store_mid rfl 190 (.tmp 6) (.tmp 26) rfl R6 0 cs.toArray rfl rfl (h7.out.1 _ _ _ j7.out) h7.out.2.1 h7.out.2.2 ?_))
 obtain⟨W5,f9⟩:=zx (W4.setCells R6 0 cs);have i9:Below w3.heap.size w3 W4:=by rw[j4.out.1];exact ZA
 have i7:Below w3.heap.size w3 W5:=by rw[f9];exact rF i9 R6 (by rw[j4.out.2];exact zq) _ _
 have l6:Hid (Below w2.heap.size w2 W5):=l8.out.trans (i7.mono l8.out.size);have j3:Hid (∀ W,Below W5.heap.size W5 W->∀ c,c<256->W.cell? ⟨R6,c,none⟩=some (.int .i64 (kx c:Nat))):=λW b c hc=>by
  have h1:W5.rangeAt R6 0 cs:=by rw[f9];exact rangeAt_setCells_same W4 R6 0 cs (by have:=h7.out.1 _ _ _ j7.out;simpa using this)
  rw[u8.out] at h1;have h2:=G0 h1 hc;exact(b.cell (p:=⟨R6,c,none⟩) (aF h2)).trans h2
 have l9:Hid (∀ c,c<256->kx c<m):=λc hc=>by
  rw[a6.out.1,a6.out.2];unfold pp;exact eZ (m_.2 ⟨c,hc,rfl⟩)
 rw[<-f9];clear f9 i9 i7 j4 j7
 go_upto_region 4 with(refine ed rfl rfl _ rfl W5.heap.size rfl ?_)
 obtain⟨W6,e6⟩:=zx (W5.alloc (.cells (nL λ_=>0).toArray 190));obtain⟨R8,e7⟩:=zx W5.heap.size
 have j9:Hid (Below W5.heap.size W5 W6/\W6.heap[R8]?=some (.cells (nL (rJ kx 256 256)).toArray 190)):=⟨by rw[e6];exact ZA,by
  rw[e6,e7,heap_alloc_new]
  congr 3⟩
 have r8:Hid (R8=W5.heap.size):=e7;rw[<-e6,<-e7];clear e6 e7;go_wp2
 go_loopw [9] (λi wr=>∃ j:Nat,i=.int .i64 ((j:Int)-1)/\j<=256/\Below W5.heap.size W5 wr/\wr.heap[R8]?=some (.cells (nL (rJ kx 256 j)).toArray 190)) (λi _=>(intOf i+1).toNat)
 case atStart=>exact⟨256,π,ω,j9.out.1,j9.out.2⟩
 case round=>
  clear j9;obtain⟨j,rfl,hj,Z,hh⟩:=hrel;have f7:Hid (Below W5.heap.size W5 wr):=Z;have HH:Hid (wr.heap[R8]?=some (.cells (nL (rJ kx 256 j)).toArray 190)):=hh;clear Z hh
  cases j with
  |succ c=>
   have d9:((c+1:Nat):Int)-1=c:=ω;rw[d9];have q6:¬(c:Int)<0:=ω;have m9:(0:Int)<=c:=ω;have s1:(c:Int)<256:=ω;have d1:=j3.out wr f7.out c ω;have hk:=l9.out c ω;have k8:(kx c:Int)<256:=ω;have d2:wr.cell? ⟨R8,kx c,none⟩=some (.int .i64 (rJ kx 256 (c+1) (kx c):Nat)):=by
    simp only[cell?,HH.out];have:=jJ (rJ kx 256 (c+1)) (kx c) ω
    simpa [lO] using this
   have d3:∀ o,wr.frozen? ⟨R8,o,none⟩=false:=λo=>by simp[frozen?,HH.out]
   obtain⟨u,hu⟩:=zx (kx c);have HU:Hid (u=kx c):=hu;rw[<-hu] at d1 d2 k8;clear hu hk;go_wp2
   refine⟨⟨c,rfl,ω,f7.out.setCell (p:=⟨R8,u,none⟩) (by show W5.heap.size<=R8;rw[r8.out];exact zq) _,?_⟩,by simp[intOf]<;>omega⟩;rw[ap HH.out];have h1:=AL (rJ kx 256 (c+1)) u c;rw[HU.out,<-GO kx (show c<256 by omega)] at h1;rw[HU.out];exact congrArg (λz=>some (Obj.cells z 190 (0,0))) h1
  |zero=>
   have d9:((0:Nat):Int)-1=-1:=ω;rw[d9];have q6:(-1:Int)<0:=ω;have m9:¬(0:Int)<=-1:=ω
   go_upto_region 9 with(fail)
   obtain⟨wz,g9⟩:=zx wr;have g6:Hid (Below W5.heap.size W5 wz):=by rw[g9];exact f7.out
   have c7:Hid (Below w2.heap.size w2 wz):=l6.out.trans (g6.out.mono l6.out.size);have a3:Hid (Below w.heap.size w wz):=f8.out.trans (c7.out.mono f8.out.size);have q8:Hid (∀ W,Below wz.heap.size wz W->∀ k,k<256->W.cell? ⟨R8,k,none⟩=some (.int .i64 (rJ kx 256 0 k:Nat))):=λW b k hk=>by
    have h0:wz.heap[R8]?=some (.cells (nL (rJ kx 256 0)).toArray 190):=by rw[g9];exact HH.out
    have h1:wz.cell? ⟨R8,k,none⟩=some (.int .i64 (rJ kx 256 0 k:Nat)):=by
     simp only[cell?,h0];have:=jJ (rJ kx 256 0) k hk
     simpa [lO] using this
    exact(b.cell (p:=⟨R8,k,none⟩) (aF h1)).trans h1
   have p2:Hid (∀ W,Below wz.heap.size wz W->∀ c,c<256->W.cell? ⟨R6,c,none⟩=some (.int .i64 (kx c:Nat))):=λW b c hc=>j3.out W (g6.out.trans (b.mono g6.out.size)) c hc
   have q9:Hid (∀ W,Below wz.heap.size wz W->∀ i,i<n->∃ g,W.cell? ⟨A,i,none⟩=some (.slice (some ⟨g,0,none⟩) n n)/\∀ k,k<n->W.cell? ⟨g,k,none⟩=some (.bool (M i k))):=λW b=>p3.out W (c7.out.trans (b.mono c7.out.size))
   have s7:Hid (∀ W,Below wz.heap.size wz W->∀ i,i<n->W.cell? ⟨ga,i,none⟩=some (.bool (ac T i))):=λW b=>HA.out W (a3.out.trans (b.mono a3.out.size))
   have s0:Hid (∀ W,Below wz.heap.size wz W->∀ i z,i<n->z<256->W.cell? ⟨V,i*256+z,none⟩=some (.int .i64 (nx T i z:Nat))):=λW b=>HV.out W (a3.out.trans (b.mono a3.out.size))
   have n9:Hid (∀ W,Below wz.heap.size wz W->W.heap[R]?=some (.cells #[.bool false,.bool false,.int .i64 0,.string ⟨#[]⟩,.slice none 0 0,.slice none 0 0] 33)):=λW b=>by
    have hl:=(ZC j6.out)
    have h1:=(c7.out.block R hl).trans j6.out;exact(b.block R (ZC h1)).trans h1
   obtain⟨W7,h8⟩:=zx (wz.alloc (.cells #[.bool false,.bool false,.int .i64 0,.string ⟨#[]⟩,.slice none 0 0,.slice none 0 0] 33));obtain⟨D,hD⟩:=zx wz.heap.size;have p4:Hid (Below wz.heap.size wz W7):=by show Below _ _ _;rw[h8];exact ZA
   have Y:Hid (W7.heap[wz.heap.size]?=some (.cells #[.bool false,.bool false,.int .i64 0,.string ⟨#[]⟩,.slice none 0 0,.slice none 0 0] 33)/\D=wz.heap.size):=⟨by rw[h8];exact Za wz _,hD⟩
   rw[<-g9,<-h8,<-hD];clear h8 hD g9 f7 HH l6 l8 j3 p3 HA HV p6 p8 d5 m0 j6 f5 f8 r8 g6 c7 d9 q6 m9;obtain⟨iB,o5,n8,i6,j0⟩:=info_parts Gz;have m7:=λw0=>dv underlying73 o5 n8 i6 j0 256 ω Zs w0
   simp only[show((256:Nat):Int)=256 from rfl] at m7
   go_upto_region 10 with(fail)
   obtain⟨G,hG⟩:=zx W7.heap.size;obtain⟨W8,g7⟩:=zx (W7.alloc (.cells (jp 256 (.int .u8 0)) 5))
   have l3:Hid (Nw W8 G 256 (λk=>.int .u8 (if k<0 then(kx k:Int) else 0))/\Below W7.heap.size W7 W8):=⟨by
    rw[g7,hG]
    exact(Nw.new W7 256 (.int .u8 0) rfl 5).congr (λk _=>χ),by rw[g7];exact ZA⟩
   have t6:Hid (G=W7.heap.size):=hG;rw[<-g7,<-hG];clear g7 hG m7 o5 n8 i6 j0
   rename World=>wo
   go_wp2
   go_loopw [12] (λi wr=>∃ j:Nat,i=.int .i64 j/\j<=256/\Nw wr G 256 (λk=>.int .u8 (if k<j then(kx k:Int) else 0))/\Below W7.heap.size W7 wr) (λi _=>256-(intOf i).toNat)
   case atStart=>exact⟨0,rfl,ω,l3.out.1,l3.out.2⟩
   case round=>
    clear l3;obtain⟨j,rfl,hj,b1,Z⟩:=hrel;have HN:Hid (Nw wr G 256 (λk=>.int .u8 (if k<j then(kx k:Int) else 0))):=b1;have HB:Hid (Below W7.heap.size W7 wr):=Z;have m3:Hid (Below wz.heap.size wz wr):=p4.out.trans (Z.mono p4.out.size)
    by_cases hlt:j<256
    .have a8:(j:Int)<256:=ω;have d1:=b1.c j hlt;rw[Zh ω] at d1;have d2:=b1.fz;have d3:=p2.out wr m3.out j hlt;have hk:=l9.out j hlt;obtain⟨u,hu⟩:=zx (kx j);have HU:Hid (u=kx j):=hu;rw[<-hu] at d3 hk;have x4:(u:Int)%256=u:=ω;clear b1 Z hu;go_wp2
     refine⟨⟨j+1,π,ω,(HN.out.set j hlt (.int .u8 (u:Int))).congr (λk hk=>?_),HB.out.setCell (p:=⟨G,j,none⟩) (by show W7.heap.size<=G;rw[t6.out];exact zq) _⟩,by simp[intOf]<;>omega⟩
     by_cases c1:k=j
     .subst c1;rw[Zi rfl,Zi ω,HU.out]
     .rw[Zh c1]
      by_cases c2:k<j
      .rw[Zi c2,Zi ω]
      .rw[Zh c2,Zh ω]
    .obtain rfl:j=256:=ω;have a8:¬(256:Int)<256:=ω;obtain⟨S,hS⟩:=zx (ba ((List.range 256).map λc=>UInt8.ofNat (kx c)));have HS:Hid (S=ba ((List.range 256).map λc=>UInt8.ofNat (kx c))):=hS;have n3:(convert 73 9 (.slice (some ⟨G,0,none⟩) 256 256)).run prog wr=.ok (.string S) wr:=by
      rw[hS]
      exact KU 256 (λc hc=>by
       have h1:=b1.c c hc;rw[Zi hc] at h1;have h2:=l9.out c hc
       exact⟨h1,ω⟩)
     have ht:wr.heap[wz.heap.size]?=some (.cells #[.bool false,.bool false,.int .i64 0,.string ⟨#[]⟩,.slice none 0 0,.slice none 0 0] 33):=(Z.block _ (ZC Y.out.1)).trans Y.out.1;have o3:Hid (wr.heap[wz.heap.size]?=_):=ht;have e3:wr.cell? ⟨D,3,none⟩=some (.string ⟨#[]⟩):=by rw[Y.out.2];simp[cell?,ht]
     have ez:∀ o,wr.frozen? ⟨D,o,none⟩=false:=λo=>by rw[Y.out.2];simp[frozen?,ht]
     clear b1 Z hS ht hlt;simp only[show((256:Nat):Int)=(256:Int) from rfl]
     go_upto_region 16 with(fail)
     obtain⟨W9,f4⟩:=zx ((wr.setCell ⟨D,3,none⟩ (.string S)).alloc (.cells #[.int .i64 0] 3));obtain⟨G9,l4⟩:=zx wr.heap.size;have I:Hid (LB wz W9 (.string S) (.slice none 0 0) (.slice none 0 0) (.slice (some ⟨G9,0,none⟩) 1 1) (.slice none 0 0) [0] [] [] [] []):=by
      have m4:Below wz.heap.size wz (wr.setCell ⟨D,3,none⟩ (.string S)):=m3.out.setCell (p:=⟨D,3,none⟩) (by show wz.heap.size<=D;rw[Y.out.2];exact zq) _;have q7:(wr.setCell ⟨D,3,none⟩ (.string S)).heap[wz.heap.size]?=some (.cells #[.bool false,.bool false,.int .i64 0,.string S,.slice none 0 0,.slice none 0 0] 33):=by rw[Y.out.2,ap o3.out];rfl
      have p1:Below (wr.setCell ⟨D,3,none⟩ (.string S)).heap.size (wr.setCell ⟨D,3,none⟩ (.string S)) W9:=by rw[f4];exact ZA
      refine⟨m4.trans (p1.mono m4.size),(p1.block _ (ZC q7)).trans q7,?_,Zn _ _ _ _,Zn _ _ _ _,λi hi=>by simp at hi,IL.nil _ _,λu hu=>by simp at hu,λu hu=>by simp at hu,λ_ _ q=>(by cases q)⟩;have:=IL.one (i:=0) m4.size;rw[f4,l4]
      simpa using this
     have p9:(wr.setCell ⟨D,3,none⟩ (.string S)).heap.size=wr.heap.size:=χ
     try rw[p9]
     rw[<-f4,<-l4];clear f4 l4 p9 e3 ez n3 o3 HB m3 HN a8;obtain⟨x,hx,hL⟩:=jA T;rw[D2 d6.out.1 d6.out.2 a6.out.1 a6.out.2] at hx;have v5:Hid (aG T=⟨T.front,T.back,(bh T (bD T)).map (bU (ai [] (bh T (bD T)))),x.1.map λb=>T.acc.getD ((bD T).idxOf b) false,x.2⟩):=hL;have k7:Hid (bG (bH T (bD T)) ((List.range m).map (rJ kx 256 0)) 256 258 [bk T 0] 0 []=some x):=hx;have j5:Hid (∀ k,k<m->rJ kx 256 0 k<256):=λk hk=>by
      have:=(Cd (key:=kS T) (K:=256) (k:=k) (by rw[<-a6.out.2];exact hk)).2;rw[a6.out.1];exact this
     obtain⟨fo,b3⟩:=zx (rJ kx 256 0);rw[<-b3] at k7 j5 q8;clear hx hL b3;go_wp2
     go_loopw [13,14,15,16,17,18] (λvm i _ _ _ _ wq=>∃(tk L:Nat) (ms:List Nat) (us:List Value) (rows:List (List Nat)) (va vn:Value) (Am:Option Addr) (cm:Nat),vm=.slice Am L cm/\i=.int .i64 tk/\L=ms.length/\L<=cm/\tk<=L/\L<=256/\rows.length=tk/\(∀ q∈ms,q<n)/\bG (bH T (bD T)) ((List.range m).map fo) 256 (258-tk) (ms.map (bk T)) tk rows=some x/\LB wz wq (.string S) va vn vm (.slice none 0 0) ms ((ms.take tk).map (ac T)) us rows []) (λ_ i _ _ _ _ _=>257-(intOf i).toNat)
     case atStart=>exact⟨0,1,[0],[],[],_,_,some ⟨G9,0,none⟩,1,rfl,rfl,rfl,ω,ω,ω,rfl,λq hq=>by rw[mem_singleton] at hq;omega,k7.out,I.out⟩
     case round=>
      clear I k7;obtain⟨tk,L,ms,us,rows,va,vn,Am,cm,rfl,rfl,hL,u5,w7,k6,q3,q4,b0,F⟩:=hrel;have P:Hid (LB wz wr (.string S) va vn (.slice Am L cm) (.slice none 0 0) ms ((ms.take tk).map (ac T)) us rows []):=F;have l1:Hid (bG (bH T (bD T)) ((List.range m).map fo) 256 (258-tk) (ms.map (bk T)) tk rows=some x):=b0;have j2:Hid (∀ q∈ms,q<n):=q4;have HL:Hid (L=ms.length/\rows.length=tk):=⟨hL,q3⟩
      clear F b0 q4 hL q3
      by_cases hlt:tk<L
      .have a8:(tk:Int)<L:=ω;have i2:tk<ms.length:=by rw[<-HL.out.1];exact hlt
       obtain⟨q,hq⟩:=zx (ms[tk]);have m1:q<n:=by rw[hq];exact j2.out _ (Zg _)
       obtain⟨st,b0⟩:=zx (λk=>bk T (nx T q (fo k)));have c3:=G4 (st:=st) (q:=bk T q) l1.out ω (by rw[hq,getElem?_map,Zj i2];rfl) (λk hk=>by rw[b0];exact(GN d6.out.1 hn m1 (j5.out k hk)).symm);have o7:(sL st (ms.map (bk T)) m).length<=256:=by
        by_cases c:256<(sL st (ms.map (bk T)) m).length
        .rw[Zi c] at c3;cases c3
        .omega
       rw[Zh ω] at c3;have u6:Hid _:=c3;have q5:Hid (∀ k,k<=m->(sL st (ms.map (bk T)) k).length<=256):=λk hk=>by
        have:=(vS st (ms.map (bk T)) k (m-k)).length_le;rw[show k+(m-k)=m by omega] at this;omega
       have a2:Hid (q=ms[tk]/\q<n):=⟨hq,m1⟩
       have n4:Hid (st=λk=>bk T (nx T q (fo k))):=b0;obtain⟨rx,o6⟩:=zx (λe=>bU (sL st (ms.map (bk T)) m) (st e));have m5:Hid (rx=λe=>bU (sL st (ms.map (bk T)) m) (st e)):=o6;obtain⟨ab,m2⟩:=zx ((ms.take tk).map (ac T));have o8:Hid (ab=(ms.take tk).map (ac T)):=m2;rw[<-m2] at P;clear c3 b0 hq m1 o6 m2 o7 l1
       rename World=>wa
       go_wp2
       go_loopw [13,15,16,17,18] (λvm vr k _ _ wq=>∃(kk L':Nat) (l:List Nat) (e0 Ar:Option Addr) (O cr:Nat),vm=.slice e0 L' O/\vr=.slice Ar kk cr/\k=.int .i64 kk/\kk<=m/\L'=l.length/\L'<=O/\L<=L'/\L'<=256/\(∀ y∈l,y<n)/\ms <+: l/\l.map (bk T)=sL st (ms.map (bk T)) kk/\LB wz wq (.string S) va vn vm vr l ab us rows ((List.range kk).map rx)) (λ_ _ k _ _ _=>m-(intOf k).toNat)
       case atStart=>exact⟨0,L,ms,Am,none,cm,0,rfl,rfl,rfl,ω,HL.out.1,u5,ω,k6,j2.out,prefix_refl _,rfl,P.out⟩
       case round=>
        clear P;obtain⟨kk,L',l,e0,Ar,O,cr,rfl,rfl,rfl,x0,p5,i4,w6,n6,i8,j1,r7,F⟩:=hrel;have P:Hid (LB wz wr (.string S) va vn (.slice e0 L' O) (.slice Ar kk cr) l ab us rows ((List.range kk).map rx)):=F;have C:Hid (L'=l.length/\(∀ y∈l,y<n)/\ms <+: l/\l.map (bk T)=sL st (ms.map (bk T)) kk):=⟨p5,i8,j1,r7⟩
        clear p5 i8 j1 r7
        by_cases hkm:kk<m
        .have k8:(kk:Int)<m:=ω;obtain⟨Gm,s8,b5,_,_,_,J⟩:=F.m.form (λe=>by rw[e] at C;have:=C.out.1;simp at this;omega);rw[<-C.out.1] at b5;injection b5 with e1 e2 e3;subst e1 e3;have b6:tk<l.length:=by rw[<-C.out.1];omega
         have d0:=J tk b6;have c0:l[tk]=q:=by
          obtain⟨r,hr⟩:=C.out.2.2.1;have h1:l[tk]?=some q:=by
           rw[<-hr,Zo i2,a2.out.1];exact Zj _
          rw[Zj b6] at h1;injection h1
         rw[c0] at d0;have d1:wr.cell? ⟨Gm,tk,none⟩=some (.int .i64 (q:Nat)):=d0;clear d0;have b3:=j5.out kk hkm;have d2:=q8.out wr F.bl kk ω;have d3:=s0.out wr F.bl q (fo kk) a2.out.2 b3;have l2:=HX.out q (fo kk) a2.out.2 b3;obtain⟨zt,i0⟩:=zx (nx T q (fo kk));have u4:Hid (zt=nx T q (fo kk)):=i0;obtain⟨fk,k9⟩:=zx (fo kk);rw[<-i0,<-k9] at d3;rw[<-k9] at d2 b3;rw[<-i0] at l2;have p7:(tk:Int)<L':=ω;have s4:(q:Int)<n:=by have:=a2.out.2;omega
         have x3:(fk:Int)<256:=ω;have v6:(kk:Int)<256:=ω;have w1:(zt:Int)<n:=ω;clear F J e2 c0 i0 k9
         rename World=>wb
         go_wp2
         go_region
         obtain⟨wi,l5⟩:=zx wb.drew;have U:Hid (LB wz wi (.string S) va vn (.slice (some ⟨Gm,0,none⟩) L' O) (.slice Ar kk cr) l ab us rows ((List.range kk).map rx)):=by rw[l5];exact P.out.below (gN wb)
         have r6:∀ j (hj:j<l.length),wi.cell? ⟨Gm,j,none⟩=some (.int .i64 (l[j]:Nat)):=λj hj=>by
          obtain⟨G2,c2,s5,_,_,_,v3⟩:=U.out.m.form (λe=>by rw[e] at hj;simp at hj);injection s5 with f1 f2 f3;injection f1 with f1;injection f1 with f1;rw[f1];exact v3 j hj
         have s9:Hid (∀ j (hj:j<l.length),wi.cell? ⟨Gm,j,none⟩=some (.int .i64 (l[j]:Nat))):=r6;rw[<-l5];clear l5 r6 d1 d2 d3 P;go_wp2
         go_loopw [18] (λa wq=>∃ j:Nat,a=.int .i64 j/\j<=L'/\wq=wi/\∀ i (hi:i<(l.map (bk T)).length),i<j->(l.map (bk T))[i]≠bk T zt) (λa _=>L' - (intOf a).toNat)
         case atStart=>exact⟨0,rfl,Zk _,rfl,λi _ h=>ω⟩
         case round=>
          obtain⟨j,rfl,hj,rfl,X⟩:=hrel;have j8:Hid (∀ i (hi:i<(l.map (bk T)).length),i<j->(l.map (bk T))[i]≠bk T zt):=X;clear X;have d4:Hid (st kk=bk T zt):=by show _=_;rw[n4.out,u4.out]
          have i5:Hid (rx kk=bU (aq (l.map (bk T)) (bk T zt)) (bk T zt)):=by
           show _=_;rw[m5.out,C.out.2.2.2,<-d4.out];exact Jf _ _ hkm
          by_cases hjl:j<L'
          .have x6:(j:Int)<L':=ω;have k5:j<l.length:=by rw[<-C.out.1];exact hjl
           have u0:=s9.out j k5;have k0:l[j]<n:=C.out.2.1 _ (Zg _);obtain⟨y,hy⟩:=zx (l[j]);rw[<-hy] at u0 k0;obtain⟨g,o1,o2⟩:=q9.out wr U.out.bl y k0;have t1:=o2 zt l2;have x5:(y:Int)<n:=ω;have HY:Hid (y=l[j]/\(M y zt=false↔bk T y=bk T zt)):=⟨hy,HM.out y zt k0 l2⟩
           obtain⟨q2,b7⟩:=zx (M y zt);have n2:Hid (q2=M y zt):=b7;rw[<-b7] at t1;clear o2 hy b7
           cases q2 with
           |true=>
            go_wp2
            go_roundw
            .refine⟨j+1,π,ω,trivial,λi hi hij=>?_⟩;rcases Nat.lt_or_ge i j with q1|q1
             .exact j8.out i hi q1
             .obtain rfl:i=j:=ω;rw[getElem_map,<-HY.out.1];intro e;have:=HY.out.2.2 e;rw[<-n2.out] at this
              cases this
            .simp[intOf]<;>omega
           |false=>
            have h9:Hid (j=bU (l.map (bk T)) (bk T zt)):=io j8.out (.inr ⟨by simpa using k5,by rw[getElem_map,<-HY.out.1];exact HY.out.2.1 n2.out.symm⟩);have b2:Hid (sL st (ms.map (bk T)) (kk+1)=l.map (bk T)/\rx kk=j):=by
             have h1:=xW (m:=l.map (bk T)) (t:=bk T zt) (by rw[<-h9.out];simpa using k5);exact⟨by rw[kT,<-C.out.2.2.2,d4.out];exact h1.1,by rw[i5.out,h1.2];exact h9.out.symm⟩
            have w5:((j:Int)==(L':Int))=false:=by rw[beq_eq_false_iff_ne];omega
            go_wp2_with (at_builtin;refine dI rfl (.tmp 102) (.tmp 104) rfl rfl rfl (U.out.r.below ZA) (IL.one (i:=j) U.out.bl.size) (Zc U.out.bl.size χ) σ ?_;intro v9 w9 h1 h2;obtain⟨A9,c9,a4,_⟩:=b_ h1.o;rw[show((List.range kk).map rx++[j]).length=kk+1 by simp] at a4;subst a4;have I:Hid (LB wz w9 (.string S) va vn (.slice (some ⟨Gm,0,none⟩) L' O) (.slice A9 (kk+1) c9) l ab us rows ((List.range (kk+1)).map rx)):=(by show LB _ _ _ _ _ _ _ _ _ _ _ _;rw[range_succ,map_append,map_cons,map_nil,b2.out.2];exact U.out.growR ZA h1 h2);clear h1 h2)
            exact⟨⟨kk+1,L',l,some ⟨Gm,0,none⟩,A9,O,c9,rfl,rfl,π,ω,C.out.1,i4,ω,n6,C.out.2.1,C.out.2.2.1,b2.out.1.symm,I.out⟩,by simp[intOf]<;>omega⟩
          .obtain rfl:j=L':=ω;have w4:¬(j:Int)<j:=ω;have x2:((j:Int)==(j:Int))=true:=χ;have h9:Hid ((l.map (bk T)).length=bU (l.map (bk T)) (bk T zt)):=by
            have:=io j8.out (.inl (by rw[length_map];exact C.out.1));show _=_;rw[<-this,length_map];exact C.out.1.symm
           have b2:Hid (sL st (ms.map (bk T)) (kk+1)=(l++[zt]).map (bk T)/\rx kk=j):=by
            have h1:=xV h9.out;exact⟨by rw[kT,<-C.out.2.2.2,d4.out,h1.1,map_append];rfl,by rw[i5.out,h1.2,length_map];exact C.out.1.symm⟩
           have v4:Hid (j+1<=256):=by
            have:=q5.out (kk+1) ω;rw[b2.out.1,length_map,length_append,<-C.out.1] at this;exact this
           have t8:=v4.out;have l0:Hid (j=l.length):=C.out.1
           go_upto_region 29 with(at_builtin;refine dI rfl (.tmp 98) (.tmp 100) rfl rfl rfl (U.out.m.below ZA) (IL.one (i:=zt) U.out.bl.size) (Zc U.out.bl.size χ) (by have:=l0.out;simp;omega) ?_;intro v8 w8 h1 h2;obtain⟨A8,c8,d7,o0⟩:=b_ h1.o;rw[show(l++[zt]).length=j+1 by rw[length_append,<-l0.out];rfl] at d7 o0;subst d7;have d8:Hid (LB wz w8 (.string S) va vn (.slice A8 (j+1) c8) (.slice Ar kk cr) (l++[zt]) ab us rows ((List.range kk).map rx)):=U.out.growM ZA h1 h2;clear h1 h2)
           go_wp2_with (at_builtin;refine dI rfl (.tmp 102) (.tmp 104) rfl rfl rfl (d8.out.r.below ZA) (IL.one (i:=j) d8.out.bl.size) (Zc d8.out.bl.size χ) σ ?_;intro v9 w9 h1 h2;obtain⟨A9,c9,a4,_⟩:=b_ h1.o;rw[show((List.range kk).map rx++[j]).length=kk+1 by simp] at a4;subst a4;have I:Hid (LB wz w9 (.string S) va vn (.slice A8 (j+1) c8) (.slice A9 (kk+1) c9) (l++[zt]) ab us rows ((List.range (kk+1)).map rx)):=(by show LB _ _ _ _ _ _ _ _ _ _ _ _;rw[range_succ,map_append,map_cons,map_nil,b2.out.2];exact d8.out.growR ZA h1 h2);clear h1 h2)
           exact⟨⟨kk+1,j+1,l++[zt],A8,A9,c8,c9,rfl,rfl,π,ω,by rw[length_append,<-l0.out];rfl,o0,ω,t8,λy hy=>by
            rcases mem_append.1 hy with q1|q1
            .exact C.out.2.1 y q1
            .rw[mem_singleton] at q1;omega,C.out.2.2.1.trans (prefix_append _ _),b2.out.1.symm,I.out⟩,by simp[intOf]<;>omega⟩
        .obtain rfl:kk=m:=ω;have k8:¬(kk:Int)<kk:=ω;obtain⟨A5,c5,i3,_⟩:=b_ F.n;have ht:=F.t;have e5:wr.cell? ⟨D,5,none⟩=some vn:=by rw[Y.out.2];simp[cell?,ht]
         have v2:Hid (rows.length<=1000):=by show _<=_;have:=HL.out.2;omega
         have v1:Hid (wz.heap.size<=(wr.alloc (.cells #[.slice Ar kk cr] 40)).heap.size):=Zc F.bl.size χ;have e9:Hid (D=wz.heap.size):=Y.out.2;clear i3 ht F
         rename World=>wb
         go_upto_region 31 with(at_builtin;refine nj rfl (.tmp 107) (.tmp 109) rfl rfl rfl (Zm P.out.n _) (Za wb _) v2.out v1.out ?_;intro v8 w8 h1 h2 h3;obtain⟨A8,c8,d7,_⟩:=b_ h1;subst d7;obtain⟨k1,k2,k3⟩:=P.out.growN ZA h1 h2;rw[<-e9.out] at k1 k2 k3;have I:Hid (LB wz (w8.setCell ⟨D,5,none⟩ (.slice A8 (rows.length+1) c8)) (.string S) va (.slice A8 (rows.length+1) c8) (.slice e0 L' O) (.slice none 0 0) l ab (us++[.slice Ar kk cr]) (rows++[(List.range kk).map rx]) []):=k3;clear k3 h1 h2 h3)
         obtain⟨H,b9⟩:=zx (w8.setCell ⟨D,5,none⟩ (.slice A8 (rows.length+1) c8));rw[<-b9] at I;rw[<-b9];clear b9 k1 k2 e5;obtain⟨Gm,s8,b5,_,_,_,J⟩:=I.out.m.form (λe=>by rw[e] at C;have:=C.out.1;simp at this;omega);rw[<-C.out.1] at b5;injection b5 with e1 e2 e3;subst e1 e3;have b6:tk<l.length:=by rw[<-C.out.1];omega
         have d0:=J tk b6;have c0:l[tk]=q:=by
          obtain⟨r,hr⟩:=C.out.2.2.1;have h1:l[tk]?=some q:=by
           rw[<-hr,Zo i2,a2.out.1];exact Zj _
          rw[Zj b6] at h1;injection h1
         rw[c0] at d0;have d1:H.cell? ⟨Gm,tk,none⟩=some (.int .i64 (q:Nat)):=d0;clear d0 J c0 e2;have d2:=s7.out H I.out.bl q a2.out.2;obtain⟨b,hb⟩:=zx (ac T q);have u3:Hid (b=ac T q):=hb;rw[<-hb] at d2;have e4:H.cell? ⟨D,4,none⟩=some va:=by rw[e9.out];simp[cell?,I.out.t]
         have s2:D<H.heap.size:=by rw[e9.out];exact I.out.tl
         have t7:D≠H.heap.size:=ω;have v7:D≠H.drew.heap.size:=t7;have b8:Below H.heap.size H (H.drew.alloc (.cells #[.bool b] 4)):=(gN H).alloc zq _;have x1:(H.drew.alloc (.cells #[.bool b] 4)).cell? ⟨D,4,none⟩=some va:=(b8.cell (p:=⟨D,4,none⟩) s2).trans e4;have n5:Hid ((H.drew.alloc (.cells #[.bool b] 4)).ownsRow wz.heap.size 4 1 va ab.length (ab.map Value.bool)):=ak I.out.a (λc e=>b8.block c (I.out.a.lt c e).2);have p0:Hid ((H.drew.alloc (.cells #[.bool b] 4)).heap[H.heap.size]?=some (.cells #[.bool b] 4)):=Za H.drew _;have u9:Hid (ab.length<=1000):=by show _<=_;rw[o8.out];simp;omega
         have s3:Hid (wz.heap.size<=(H.drew.alloc (.cells #[.bool b] 4)).heap.size):=Zc I.out.bl.size b8.size;have u2:Hid (Below H.heap.size H (H.drew.alloc (.cells #[.bool b] 4))):=b8;have s4:(q:Int)<n:=by have:=a2.out.2;omega
         have p7:(tk:Int)<L':=ω;clear hb b8
         go_region_law (refine kV rfl (.tmp 113) (.tmp 121) rfl rfl rfl n5.out p0.out u9.out s3.out ?_;intro v9 w9 h1 h2 h3;obtain⟨A9,c9,a4,_⟩:=b_ h1;subst a4;obtain⟨k1,k2,k3⟩:=I.out.growA u2.out h1 h2;rw[<-e9.out] at k1 k2 k3;have n1:Hid (LB wz (w9.setCell ⟨D,4,none⟩ (.slice A9 (ab.length+1) c9)) (.string S) (.slice A9 (ab.length+1) c9) (.slice A8 (rows.length+1) c8) (.slice (some ⟨Gm,0,none⟩) L' O) (.slice none 0 0) l (ab++[b]) (us++[.slice Ar kk cr]) (rows++[(List.range kk).map rx]) []):=k3;clear k3 h1 h2 h3)
         all_goals
          go_wp2
          have t9:bG (bH T (bD T)) ((List.range kk).map fo) 256 (258-(tk+1)) (l.map (bk T)) (tk+1) (rows++[(List.range kk).map rx])=some x:=by rw[C.out.2.2.2,m5.out];exact u6.out
          have q0:ab++[b]=(l.take (tk+1)).map (ac T):=by rw[G5 (ac T) C.out.2.2.1 i2,o8.out,u3.out,a2.out.1]
          exact⟨⟨tk+1,L',l,us++[.slice Ar kk cr],rows++[(List.range kk).map rx],_,_,some ⟨Gm,0,none⟩,O,rfl,π,C.out.1,i4,ω,n6,by rw[length_append,HL.out.2];rfl,C.out.2.1,t9,by rw[<-q0];exact n1.out⟩,by simp[intOf]<;>omega⟩
      .obtain rfl:tk=L:=ω;have a8:¬(tk:Int)<tk:=ω;have F:=P.out;rw[show ms.take tk=ms by rw[HL.out.1];exact take_length] at F;obtain⟨A4,c4,n0,_⟩:=b_ F.a;obtain⟨A5,c5,i3,_⟩:=b_ F.n;obtain⟨la,o4⟩:=zx ((ms.map (ac T)).length);obtain⟨ln,o9⟩:=zx rows.length;rw[<-o4] at n0;rw[<-o9] at i3;subst n0 i3;have hx:=Jg l1.out ω (by rw[length_map];exact HL.out.1);have g8:Hid ((aG T).cls=(List.range 256).map (pp (kS T) 256)/\(aG T).acc=ms.map (ac T)/\(aG T).next=rows):=D3 d6.out.1 hn d6.out.2 v5.out hx j2.out;have a5:Hid (LB wz wr (.string S) (.slice A4 la c4) (.slice A5 ln c5) (.slice Am tk cm) (.slice none 0 0) ms (ms.map (ac T)) us rows []):=F;have ht:=F.t;rw[<-Y.out.2] at ht;have hr:=n9.out wr F.bl;obtain⟨t0,t1,t2,t3,t4,t5⟩:=dH ht;obtain⟨r0,r1,r2,r3,r4,r5⟩:=dH hr;have rz:∀ o,wr.frozen? ⟨R,o,none⟩=false:=λo=>by simp[frozen?,hr]
       have m6:R<wz.heap.size:=(Array.getElem?_eq_some_iff.1 (n9.out wz ZB)).1;have r9:Hid (((((((wr.setCell ⟨R,0,none⟩ (.bool false)).setCell ⟨R,1,none⟩ (.bool false)).setCell ⟨R,2,none⟩ (.int .i64 0)).setCell ⟨R,3,none⟩ (.string S)).setCell ⟨R,4,none⟩ (.slice A4 la c4)).setCell ⟨R,5,none⟩ (.slice A5 ln c5)).heap[R]?=some (.cells #[.bool false,.bool false,.int .i64 0,.string S,.slice A4 la c4,.slice A5 ln c5] 33)):=kU hr _ _ _ _ _ _;have s6:Hid (R<wz.heap.size):=m6;clear hx ht hr F P o4 o9 m6;go_wp2
       obtain⟨Wf,i1⟩:=zx ((((((wr.setCell ⟨R,0,none⟩ (.bool false)).setCell ⟨R,1,none⟩ (.bool false)).setCell ⟨R,2,none⟩ (.int .i64 0)).setCell ⟨R,3,none⟩ (.string S)).setCell ⟨R,4,none⟩ (.slice A4 la c4)).setCell ⟨R,5,none⟩ (.slice A5 ln c5));have l7:∀ b,wz.heap.size<=b->Wf.heap[b]?=wr.heap[b]?:=λb hb=>by
        have X:b≠R:=by have:=s6.out;omega
        rw[i1,ah _ _ _ _ X,ah _ _ _ _ X,ah _ _ _ _ X,ah _ _ _ _ X,ah _ _ _ _ X,ah _ _ _ _ X]
       have a9:w.heap.size<=R:=by rw[v0.out];exact zq
       have u1:Below w.heap.size w Wf:=by
        rw[i1];exact((((((a3.out.trans (a5.out.bl.mono a3.out.size)).setCell (p:=⟨R,0,none⟩) a9 _).setCell (p:=⟨R,1,none⟩) a9 _).setCell (p:=⟨R,2,none⟩) a9 _).setCell (p:=⟨R,3,none⟩) a9 _).setCell (p:=⟨R,4,none⟩) a9 _).setCell (p:=⟨R,5,none⟩) a9 _
       have a7:=r9.out;rw[<-i1] at a7;rw[<-i1];obtain⟨g0,g1,g2,g3,g4,g5⟩:=dH a7;refine Zb (v:=.agg #[.bool false,.bool false,.int .i64 0,.string S,.slice A4 la c4,.slice A5 ln c5]) (by simp[results,results49,go_sem,g0,g1,g2,g3,g4,g5]) rfl ?_;refine⟨.slice A4 la c4,.slice A5 ln c5,?_,u1,us,wz.heap.size,a3.out.size,?_,?_,λi hi=>?_⟩
       .rw[g8.out.1,HS.out,a6.out.1,map_map];rfl
       .rw[g8.out.2.1];exact ak a5.out.a (λb e=>l7 b (a5.out.a.lt b e).1)
       .rw[g8.out.2.2];exact ak a5.out.n (λb e=>l7 b (a5.out.n.lt b e).1)
       .rw[g8.out.2.2];have:=(a5.out.u i hi).keep (w':=Wf) (λb e=>l7 b ((a5.out.u i hi).lt e).1);rw[getD_eq_getElem?_getD] at this;exact this
open Go.RowKit
open Sx (aV dp)
def AR {w w2:World}{lo b n s:Nat}{e:TypeId}{xs:List Value} (h:w.ownsRow b e s v n xs) (hl:lo<=b) (k:Hi lo w w2):w2.ownsRow b e s v n xs:=by
 refine⟨h.1,?_⟩;rcases h.2 with q|⟨g,i,d,rfl,h1,h2,r⟩
 .exact .inl q
 .exact .inr ⟨g,i,d,rfl,h1,(k.block g ω (ZC h2)).trans h2,r⟩
def KV {B lo:Nat}{va vn:Value} (ho:w.ownsRow B 4 1 va t.acc.length (t.acc.map Value.bool)) (hn:w.ownsRow B 40 1 vn t.next.length us) (hr:∀ i (hi:i<us.length),IL B w us[i] (t.next.getD i [])) (hl:lo<=B) :
  ∀ w2,Hi lo w w2->cJ w2 (fm t) va vn:=λw2 k=>by
 have hu:us.length=t.next.length:=by have:=hn.1;omega
 refine⟨fM (AR ho hl k),us,by simp[fm,hu],fM (enc:=id) (by rw[hu,map_id];exact AR hn hl k),λj h1 h2=>?_⟩;have h3:=(hr j h1).o;have h4:(fm t).next[j]=(t.next.getD j []).map Int.ofNat:=by
  simp only[fm,getElem_map];rw[getD_at ω]
 rw[h4];refine rA (fM (e:=3) (base:=B) ?_);exact AR h3 hl k
def yu (t:Tn):(aG t).front=t.front/\(aG t).back=t.back:=by
 unfold aG
 split<;>exact⟨rfl,rfl⟩
def G6 (lo:Nat) (w':World) (r:(Int×Int) ⊕ Tb) (e:Ending):Prop:=match r with
 |.inl x=>e=.returned (.tuple #[zT,.int .i64 x.1,.int .i64 x.2])
 |.inr t=>∃ va vn,e=.returned (.tuple #[tv t va vn,.int .i64 0,.int .i64 0])/\∀ w2,Hi lo w' w2->cJ w2 t va vn
abbrev oX:Obj:=.cells #[.slice none 0 0,.slice none 0 0] 106
abbrev lY (sp:Nat) (fr:Bool):Obj:=.cells #[.pointer (some ⟨sp,0,none⟩),.bool false,.slice none 0 0,.slice none 0 0,.bool fr] 110
theorem Hr.keep {x:Rx}{p:Rp}{vs vf:Value}{f l:Value} (h:Hr lo w sp x p vs vf us f l) {cs:Array Value} (hq:w.heap[q]?=some (.cells cs 110)) (hk:∀ b,b≠q->w'.heap[b]?=w.heap[b]?) (hs:w.heap.size<=w'.heap.size):Hr lo w' sp x p vs vf us f l:=by
 have hm:∀ b,MB sp vs vf us b->b≠q:=λb hb=>by
  rcases hb with rfl|e|e|⟨u,hu,e⟩
  .exact aU h.sx.h hq Zr
  .obtain⟨c,e⟩:=az h.sx.s e;exact aU e hq Zr
  .obtain⟨c,e⟩:=az h.sx.f e;exact aU e hq Zr
  .obtain⟨i,hi,rfl⟩:=mem_iff_getElem.1 hu;obtain⟨c,e⟩:=az (h.sx.u i hi).o e;exact aU e hq Zr
 have hi:∀ {v:Value}{k:List Nat},IL lo w v k->IL lo w' v k:=λg=>g.keep (λb e=>hk b (by
  obtain⟨c,e⟩:=az g.o e
  exact aU e hq Zr))
 exact⟨h.sx.keep (λb hb=>hk b (hm b hb)),⟨hi h.pc.f,hi h.pc.l,h.pc.mf,h.pc.ml⟩,Zc h.lw hs,h.n,h.fn,h.bf,h.br,h.lf,h.ll,h.lr⟩
open Sx (aV RT)
def fN (w:World) (o:Obj):Below w.heap.size w (w.alloc o):=ZA
variable (w s) in
def D4 (limit:Int) (h:limit<1\/200<limit) :
  Calls prog 15 #[.string s,.int .i64 limit] w λe w'=>e=.returned (.tuple #[zT,.int .i64 2,.int .i64 0])/\Below w.heap.size w w':=by
 by_cases h1:limit<1
 .clear h
  go_enter func15,ntmps15
  go_wp2
  refine Zb (v:=.tuple #[zT,.int .i64 2,.int .i64 0]) (by simp[results,results15,go_sem]) rfl ?_;exact⟨rfl,fN _ _⟩
 .have h2:200<limit:=ω
  go_enter func15,ntmps15
  go_wp2
  refine Zb (v:=.tuple #[zT,.int .i64 2,.int .i64 0]) (by simp[results,results15,go_sem]) rfl ?_;exact⟨rfl,fN _ _⟩
abbrev KW:Array Value:=#[.bool false,.bool false,.int .i64 0,.string ⟨#[]⟩,.slice none 0 0,.slice none 0 0]
abbrev K4 (w:World) (s:ByteArray) (err pl:Int):Prop:=∀ W,Below w.heap.size w W->Calls prog 44 #[.string s] W λe w'=>e=.returned (.tuple #[.int .i64 err,.int .i64 pl])/\Below W.heap.size W w'
def jL (h:Below w.heap.size w W) (hR:w.heap.size<=R) (b0 b1 b2 b3 b4 b5:Value):Below w.heap.size w ((((((W.setCell ⟨R,0,none⟩ b0).setCell ⟨R,1,none⟩ b1).setCell ⟨R,2,none⟩ b2).setCell ⟨R,3,none⟩ b3).setCell ⟨R,4,none⟩ b4).setCell ⟨R,5,none⟩ b5):=
 (((((h.setCell (p:=⟨R,0,none⟩) hR _).setCell (p:=⟨R,1,none⟩) hR _).setCell (p:=⟨R,2,none⟩) hR _).setCell (p:=⟨R,3,none⟩) hR _).setCell (p:=⟨R,4,none⟩) hR _).setCell (p:=⟨R,5,none⟩) hR _
variable (w s) in
def ot (limit:Int) (h1:¬ limit<1) (h2:¬ 200<limit) (err pl:Int) (herr:(err != 0)=true) (hs:K4 w s err pl) :
  Calls prog 15 #[.string s,.int .i64 limit] w λe w'=>e=.returned (.tuple #[zT,.int .i64 err,.int .i64 pl])/\Below w.heap.size w w':=by
 have HS:=zh hs
 go_enter func15,ntmps15
 go_upto_region 1 with(fail);obtain⟨R,hR⟩:=zx w.heap.size;obtain⟨W0,b⟩:=zx (w.alloc (.cells #[.bool false,.bool false,.int .i64 0,.string ⟨#[]⟩,.slice none 0 0,.slice none 0 0] 33));have d:Hid (Below w.heap.size w W0):=(by show Below _ _ _;rw[b];exact fN _ _);have h:Hid (W0.heap[R]?=some (.cells KW 33)):=(by show _=_;rw[b,hR];exact Za w _);have p:=zh hR;rw[<-b,<-hR];clear b hR
 go_upto_region 4 with(go_at_call 44;refine(HS _ d).mono ?_;rintro e w1 ⟨rfl,j⟩;have l:=zh (d.trans (j.mono d.size));have i:=zh ((j.block R (ZC h)).trans h))
 have rh:=i.out;obtain⟨r0,r1,r2,r3,r4,r5⟩:=dH rh;have rz:∀ o,(w1).frozen? ⟨R,o,none⟩=false:=(λo=>by simp[frozen?,rh])
 have k:Hid (((((((w1.setCell ⟨R,0,none⟩ (.bool false)).setCell ⟨R,1,none⟩ (.bool false)).setCell ⟨R,2,none⟩ (.int .i64 0)).setCell ⟨R,3,none⟩ (.string ⟨#[]⟩)).setCell ⟨R,4,none⟩ (.slice none 0 0)).setCell ⟨R,5,none⟩ (.slice none 0 0)).heap[R]?=some (.cells KW 33)):=kU i _ _ _ _ _ _;go_wp2
 obtain⟨g0,g1,g2,g3,g4,g5⟩:=dH k;refine Zb (v:=.tuple #[zT,.int .i64 err,.int .i64 pl]) (by simp[results,results15,go_sem,g0,g1,g2,g3,g4,g5]) rfl ?_;exact⟨rfl,jL l (by rw[p.out];exact zq) _ _ _ _ _ _⟩
def AS {T:RT} (h:aV w (λk=>k<w.heap.size) T g) (b:Below w.heap.size w w'):aV w' (λk=>k<w'.heap.size) T g:=Sx.aV.of_heap (λj hj _=>⟨Zd hj b.size,b.block j hj⟩) T g h
abbrev L0 (s:ByteArray) (fr bk:Bool) (T:RT):Prop:=∀ W,Calls prog 45 #[.string s] W λe w'=>∃ g,e=.returned (.tuple #[.pointer (some ⟨g,0,none⟩),.bool fr,.bool bk])/\Below W.heap.size W w'/\aV w' (λk=>k<w'.heap.size) T g
abbrev L2 (T:RT) (n:Nat):Prop:=∀ W g,aV W (λk=>k<W.heap.size) T g->Calls prog 46 #[.pointer (some ⟨g,0,none⟩)] W λe w'=>e=.returned (.int .i64 (n:Nat))/\Below W.heap.size W w'
variable (w s) in
def AT (limit:Int) (h1:¬ limit<1) (h2:¬ 200<limit) (fr bk:Bool) (T:RT) (n:Nat) (hn:64<n) (hs:K4 w s 0 0) (hm:L0 s fr bk T) (hN:L2 T n) :
  Calls prog 15 #[.string s,.int .i64 limit] w λe w'=>e=.returned (.tuple #[zT,.int .i64 4,.int .i64 0])/\Below w.heap.size w w':=by
 have HS:=zh hs;have HM:=zh hm;have HN:=zh hN;have F:(64:Int)<(n:Int):=ω
 go_enter func15,ntmps15
 go_upto_region 1 with(fail);obtain⟨R,hR⟩:=zx w.heap.size;obtain⟨W0,b⟩:=zx (w.alloc (.cells #[.bool false,.bool false,.int .i64 0,.string ⟨#[]⟩,.slice none 0 0,.slice none 0 0] 33));have d:Hid (Below w.heap.size w W0):=(by show Below _ _ _;rw[b];exact fN _ _);have i:Hid (W0.heap[R]?=some (.cells KW 33)):=(by show _=_;rw[b,hR];exact Za w _);have C:=zh hR;rw[<-b,<-hR];clear b hR
 go_upto_region 8 with(first|(go_at_call 46;refine(HN _ _ r).mono ?_;rintro e w3 ⟨rfl,h⟩;have z:=zh (k.trans (h.mono k.size));have y:=zh ((h.block R (ZC x)).trans x);have D:=zh (AS r h))|(go_at_call 45;refine(HM _).mono ?_;rintro e w2 ⟨g,rfl,l,B⟩;have k:=zh (j.trans (l.mono j.size));have x:=zh ((l.block R (ZC p)).trans p);have r:=zh B)|(go_at_call 44;refine(HS _ d).mono ?_;rintro e w1 ⟨rfl,u⟩;have j:=zh (d.trans (u.mono d.size));have p:=zh ((u.block R (ZC i)).trans i)))
 have rh:=y.out;obtain⟨r0,r1,r2,r3,r4,r5⟩:=dH rh;have rz:∀ o,(w3).frozen? ⟨R,o,none⟩=false:=(λo=>by simp[frozen?,rh])
 have A:Hid (((((((w3.setCell ⟨R,0,none⟩ (.bool false)).setCell ⟨R,1,none⟩ (.bool false)).setCell ⟨R,2,none⟩ (.int .i64 0)).setCell ⟨R,3,none⟩ (.string ⟨#[]⟩)).setCell ⟨R,4,none⟩ (.slice none 0 0)).setCell ⟨R,5,none⟩ (.slice none 0 0)).heap[R]?=some (.cells KW 33)):=kU y _ _ _ _ _ _;go_wp2
 obtain⟨g0,g1,g2,g3,g4,g5⟩:=dH A;refine Zb (v:=.tuple #[zT,.int .i64 4,.int .i64 0]) (by simp[results,results15,go_sem,g0,g1,g2,g3,g4,g5]) rfl ?_;exact⟨rfl,jL z (by rw[C.out];exact zq) _ _ _ _ _ _⟩
abbrev Mr (limit:Nat) (fr:Bool) (em:Bool) (T:RT) (SP:World->World->Ending->Prop):Prop:=∀ W g W1 sp,aV W (λk=>k<W.heap.size) T g->sp=W.heap.size->W1=(W.alloc oX).alloc (lY W.heap.size fr)->Calls prog 47 #[.pointer (some ⟨sp,0,none⟩),.pointer (some ⟨g,0,none⟩)] W1 λe w'=>∃ f1 f2 f3 l1 l2 l3,e=.returned (j_ em (.slice f1 f2 f3) (.slice l1 l2 l3))/\Below W.heap.size W w'/\w'.heap[sp+1]?=some (lY sp fr) /\
  ∀ W2,(∀ b,b≠sp+1->W2.heap[b]?=w'.heap[b]?)->w'.heap.size<=W2.heap.size->Calls prog 48 #[K3 sp em (.slice f1 f2 f3) (.slice l1 l2 l3) fr,.int .i64 (limit:Nat)] W2 λe W3=>SP W2 W3 e
variable (w s limit) in
def AU (h1:¬(limit:Int)<1) (h2:¬(200:Int)<limit) (fr bk em:Bool) (T:RT) (n:Nat) (hn:¬ 64<n) (hs:K4 w s 0 0) (hm:L0 s fr bk T) (hN:L2 T n) (hst:Mr limit fr em T λW W' e=>e=.returned (.tuple #[.slice none 0 0,.slice none 0 0])/\Below W.heap.size W W') :
  Calls prog 15 #[.string s,.int .i64 (limit:Nat)] w λe w'=>e=.returned (.tuple #[zT,.int .i64 4,.int .i64 0])/\Below w.heap.size w w':=by
 have HS:=zh hs;have HM:=zh hm;have HN:=zh hN;have b1:=zh hst;have b2:¬(64:Int)<(n:Int):=ω
 go_enter func15,ntmps15
 go_upto_region 1 with(fail);obtain⟨R,hR⟩:=zx w.heap.size;obtain⟨W0,k⟩:=zx (w.alloc (.cells #[.bool false,.bool false,.int .i64 0,.string ⟨#[]⟩,.slice none 0 0,.slice none 0 0] 33));have z:Hid (Below w.heap.size w W0):=(by show Below _ _ _;rw[k];exact fN _ _);have J:Hid (W0.heap[R]?=some (.cells KW 33)):=(by show _=_;rw[k,hR];exact Za w _);have b0:=zh hR;rw[<-k,<-hR];clear k hR
 go_upto_region 10 with(first|(go_at_call 46;refine(HN _ _ F).mono ?_;rintro e w3 ⟨rfl,y⟩;have A:=zh (M.trans (y.mono M.size));have u:=zh ((y.block R (ZC G)).trans G);have a4:=zh (AS F y))|(go_at_call 45;refine(HM _).mono ?_;rintro e w2 ⟨g,rfl,N,a6⟩;have M:=zh (V.trans (N.mono V.size));have G:=zh ((N.block R (ZC Y)).trans Y);have F:=zh a6)|(go_at_call 44;refine(HS _ z).mono ?_;rintro e w1 ⟨rfl,a2⟩;have V:=zh (z.trans (a2.mono z.size));have Y:=zh ((a2.block R (ZC J)).trans J)))
 go_upto_region 11 with(fail)
 obtain⟨sp,l⟩:=zx w3.heap.size;obtain⟨W4,j⟩:=zx ((w3.alloc (.cells #[.slice none 0 0,.slice none 0 0] 106)).alloc (.cells #[.pointer (some ⟨w3.heap.size,0,none⟩),.bool false,.slice none 0 0,.slice none 0 0,.bool fr] 110));have D:W4.heap[sp+1]?=some (lY sp fr):=(by rw[j,l];exact(congrArg _ χ).trans (Za (w3.alloc oX) _));obtain⟨s0,_,_,_,_⟩:=fQ D;rw[<-j,<-l];have i:Hid (sp=w3.heap.size/\W4=(w3.alloc oX).alloc (lY w3.heap.size fr)):=⟨l,j⟩;clear j l D
 go_upto_region 12 with(go_at_call 47;refine(b1 w3 g W4 sp a4 i.1 i.2).mono ?_;rintro e w5 ⟨f1,f2,f3,l1,l2,l3,rfl,B,h,r⟩;have Z:=zh (A.trans (B.mono A.size));have O:=zh ((B.block R (ZC u)).trans u);have P:=zh h;have L:=zh r;obtain⟨_,c1,c2,c3,_⟩:=fQ h;have z5:∀ o,w5.frozen? ⟨sp+1,o,none⟩=false:=(λo=>by simp[frozen?,h]);clear B h r);obtain⟨W6,d⟩:=zx (((w5.setCell ⟨sp+1,1,none⟩ (.bool em)).setCell ⟨sp+1,2,none⟩ (.slice f1 f2 f3)).setCell ⟨sp+1,3,none⟩ (.slice l1 l2 l3));rw[<-d];have U:W6.heap[sp+1]?=some (.cells #[.pointer (some ⟨sp,0,none⟩),.bool em,.slice f1 f2 f3,.slice l1 l2 l3,.bool fr] 110):=(by rw[d];exact ap (ap (ap P)));have x:∀ b,b≠sp+1->W6.heap[b]?=w5.heap[b]?:=(λb hb=>by rw[d,ah _ _ _ _ hb,ah _ _ _ _ hb,ah _ _ _ _ hb]);have I:w5.heap.size<=W6.heap.size:=(by rw[d];simp[World.setCell]);have S:=A.size;have a8:=(ZC u);have a9:=i.1;have H:Hid (Below w.heap.size w W6):=(by show Below _ _ _;rw[d];exact((Z.setCell (p:=⟨sp+1,1,none⟩) (by simp only;omega) _).setCell (p:=⟨sp+1,2,none⟩) (by simp only;omega) _).setCell (p:=⟨sp+1,3,none⟩) (by simp only;omega) _);have a1:=zh ((x R ω).trans O);have a5:=zh (L W6 x I);obtain⟨s0,s1,s2,s3,s4⟩:=fQ U;clear d U x I S a8 a9 c1 c2 c3 z5 P L i Z O
 go_upto_region 13 with(go_at_call 48;refine a5.mono ?_;rintro e w7 ⟨rfl,C⟩;have a7:=zh (H.trans (C.mono H.size));have X:=zh ((C.block R (ZC a1)).trans a1);clear C)
 clear s0 s1 s2 s3 s4;have rh:=X.out;obtain⟨r0,r1,r2,r3,r4,r5⟩:=dH rh;have rz:∀ o,(w7).frozen? ⟨R,o,none⟩=false:=(λo=>by simp[frozen?,rh])
 clear rh;have a3:Hid (((((((w7.setCell ⟨R,0,none⟩ (.bool false)).setCell ⟨R,1,none⟩ (.bool false)).setCell ⟨R,2,none⟩ (.int .i64 0)).setCell ⟨R,3,none⟩ (.string ⟨#[]⟩)).setCell ⟨R,4,none⟩ (.slice none 0 0)).setCell ⟨R,5,none⟩ (.slice none 0 0)).heap[R]?=some (.cells KW 33)):=kU X _ _ _ _ _ _;go_wp2
 obtain⟨g0,g1,g2,g3,g4,g5⟩:=dH a3;refine Zb (v:=.tuple #[zT,.int .i64 4,.int .i64 0]) (by simp[results,results15,go_sem,g0,g1,g2,g3,g4,g5]) rfl ?_;exact⟨rfl,jL a7 (by rw[b0.out];exact zq) _ _ _ _ _ _⟩
def G7 (n:Nat) (h:n<1000):IntKind.i64.wrap (n:Int)=n:=by rw[IntKind.wrap_i64];omega
def Ms (nA:Nat) (q:Nat->List UInt8) (nf:Nat->Nat->Nat) (W W':World) (e:Ending):Prop:=∃ G ca V cv,e=.returned (.tuple #[.slice (some ⟨G,0,none⟩) nA ca,.slice (some ⟨V,0,none⟩) nA cv])/\nA<=ca/\nA<=cv/\(∀ i,i<nA->W'.cell? ⟨G,i,none⟩=some (.string (ba (q i))))/\(∀ i z,i<nA->z<256->W'.cell? ⟨V,i*256+z,none⟩=some (.int .i64 (nf i z:Nat)))/\Below W.heap.size W W'
abbrev MG (nA:Nat) (af:Nat->Bool) (nf:Nat->Nat->Nat) (cls:List UInt8) (acc:List Bool) (nxt:List (List Int)) (fr bk:Bool):Prop:=∀ W ga V ca cv,nA<=ca->nA<=cv->(∀ i,i<nA->W.cell? ⟨ga,i,none⟩=some (.bool (af i)))->(∀ i z,i<nA->z<256->W.cell? ⟨V,i*256+z,none⟩=some (.int .i64 (nf i z:Nat)))->Calls prog 49 #[.slice (some ⟨ga,0,none⟩) nA ca,.slice (some ⟨V,0,none⟩) nA cv] W λe w'=>∃ a1 a2 a3 n1 n2 n3,e=.returned (.agg #[.bool false,.bool false,.int .i64 0,.string (ba cls),.slice a1 a2 a3,.slice n1 n2 n3])/\(∀ w2,Hi W.heap.size w' w2->cJ w2 ⟨fr,bk,0,cls,acc,nxt⟩ (.slice a1 a2 a3) (.slice n1 n2 n3))/\Below W.heap.size W w'
variable (w s limit) in
def AV (h1:¬(limit:Int)<1) (h2:¬(200:Int)<limit) (fr bk em:Bool) (T:RT) (n:Nat) (hn:¬ 64<n) (nA:Nat) (hA1:1<=nA) (hA2:nA<=200) (q:Nat->List UInt8) (N:Nat) (hN:N<=64) (hq:∀ i,i<nA->(q i).length=N+1) (nf:Nat->Nat->Nat) (cls:List UInt8) (acc:List Bool) (nxt:List (List Int)) (hs:K4 w s 0 0) (hm:L0 s fr bk T) (hSn:L2 T n) (hst:Mr limit fr em T (Ms nA q nf)) (hle:MG nA (λi=>(q i).getD N 0==49) nf cls acc nxt fr bk) :
  Calls prog 15 #[.string s,.int .i64 (limit:Nat)] w λe w'=>∃ va vn,e=.returned (.tuple #[tv ⟨fr,bk,0,cls,acc,nxt⟩ va vn,.int .i64 0,.int .i64 0])/\(∀ w2,Hi w.heap.size w' w2->cJ w2 ⟨fr,bk,0,cls,acc,nxt⟩ va vn)/\Below w.heap.size w w':=by
 have HS:=zh hs;have HM:=zh hm;have HN:=zh hSn;have g6:=zh hst;have c6:=zh hle;have HQ:=zh hq;have j3:¬(64:Int)<(n:Int):=ω;have j7:(((nA:Nat):Int)==0)=false:=σ;clear hs hm hSn hn hst hle hq
 go_enter func15,ntmps15
 go_upto_region 1 with(fail);obtain⟨R,hR⟩:=zx w.heap.size;obtain⟨W0,P⟩:=zx (w.alloc (.cells #[.bool false,.bool false,.int .i64 0,.string ⟨#[]⟩,.slice none 0 0,.slice none 0 0] 33));have M:Hid (Below w.heap.size w W0):=(by show Below _ _ _;rw[P];exact fN _ _);have b0:Hid (W0.heap[R]?=some (.cells KW 33)):=(by show _=_;rw[P,hR];exact Za w _);have i8:=zh hR;rw[<-P,<-hR];clear P hR
 go_upto_region 10 with(first|(go_at_call 46;refine(HN _ _ a5).mono ?_;rintro e w3 ⟨rfl,J⟩;have O:=zh (b3.trans (J.mono b3.size));have I:=zh ((J.block R (ZC a6)).trans a6);have d9:=zh (AS a5 J);clear J)|(go_at_call 45;refine(HM _).mono ?_;rintro e w2 ⟨g,rfl,b4,f5⟩;have b3:=zh (b7.trans (b4.mono b7.size));have a6:=zh ((b4.block R (ZC b9)).trans b9);have a5:=zh f5;clear b4 f5)|(go_at_call 44;refine(HS _ M).mono ?_;rintro e w1 ⟨rfl,d3⟩;have b7:=zh (M.trans (d3.mono M.size));have b9:=zh ((d3.block R (ZC b0)).trans b0);clear d3))
 go_upto_region 11 with(fail)
 obtain⟨sp,X⟩:=zx w3.heap.size;obtain⟨W4,F⟩:=zx ((w3.alloc (.cells #[.slice none 0 0,.slice none 0 0] 106)).alloc (.cells #[.pointer (some ⟨w3.heap.size,0,none⟩),.bool false,.slice none 0 0,.slice none 0 0,.bool fr] 110));have d5:W4.heap[sp+1]?=some (lY sp fr):=(by rw[F,X];exact(congrArg _ χ).trans (Za (w3.alloc oX) _));obtain⟨s0,_,_,_,_⟩:=fQ d5;rw[<-F,<-X];have C:Hid (sp=w3.heap.size/\W4=(w3.alloc oX).alloc (lY w3.heap.size fr)):=⟨X,F⟩;clear F X d5
 go_upto_region 12 with(go_at_call 47;refine(g6 w3 g W4 sp d9 C.1 C.2).mono ?_;rintro e w5 ⟨f1,f2,f3,l1,l2,l3,rfl,c7,B,Z⟩;have f8:=zh (O.trans (c7.mono O.size));have e5:=zh ((c7.block R (ZC I)).trans I);have e6:=zh B;have e2:=zh Z;obtain⟨_,c1,c2,c3,_⟩:=fQ B;have z5:∀ o,w5.frozen? ⟨sp+1,o,none⟩=false:=(λo=>by simp[frozen?,B]);clear c7 B Z);obtain⟨W6,l⟩:=zx (((w5.setCell ⟨sp+1,1,none⟩ (.bool em)).setCell ⟨sp+1,2,none⟩ (.slice f1 f2 f3)).setCell ⟨sp+1,3,none⟩ (.slice l1 l2 l3));rw[<-l];have f4:W6.heap[sp+1]?=some (.cells #[.pointer (some ⟨sp,0,none⟩),.bool em,.slice f1 f2 f3,.slice l1 l2 l3,.bool fr] 110):=(by rw[l];exact ap (ap (ap e6)));have b2:∀ b,b≠sp+1->W6.heap[b]?=w5.heap[b]?:=(λb hb=>by rw[l,ah _ _ _ _ hb,ah _ _ _ _ hb,ah _ _ _ _ hb]);have d6:w5.heap.size<=W6.heap.size:=(by rw[l];simp[World.setCell]);have f0:=O.size;have i0:=(ZC I);have i2:=C.1;have a8:Hid (Below w.heap.size w W6):=(by show Below _ _ _;rw[l];exact((f8.setCell (p:=⟨sp+1,1,none⟩) (by simp only;omega) _).setCell (p:=⟨sp+1,2,none⟩) (by simp only;omega) _).setCell (p:=⟨sp+1,3,none⟩) (by simp only;omega) _);have d2:=zh ((b2 R ω).trans e5);have e1:=zh (e2 W6 b2 d6);obtain⟨s0,s1,s2,s3,s4⟩:=fQ f4;clear l f4 b2 d6 f0 i0 i2 c1 c2 c3 z5 e6 e2 C f8 e5
 go_upto_region 13 with(go_at_call 48;refine e1.mono ?_;rintro e w7 ⟨G,ca,V,cv,rfl,j0,e7,hG,hV,d0⟩;have b6:=zh (a8.trans (d0.mono a8.size));have b8:=zh ((d0.block R (ZC d2)).trans d2);have HG:=zh hG;have HV:=zh hV;have e3:=zh e7;clear d0 hG hV e7)
 clear s0 s1 s2 s3 s4 e1 d2 a8 I O d9 a6 b3 a5 b9 b7 b0 M g6 HS HM HN;obtain⟨L,hL⟩:=zx w7.heap.size;have x:=zh hL;obtain⟨af,a7⟩:=zx (λi=>(q i).getD N 0==49);rw[<-a7] at c6;have h8:=zh a7;clear hL a7;go_wp2
 go_loopw [16,17] (λva i wr=>∃ k:Nat,i=.int .i64 k/\k<=nA/\wr.ownsRow L 4 1 va k (((List.range k).map af).map Value.bool)/\Below L w7 wr) (λ_ i _=>nA-(intOf i).toNat)
 case atStart=>exact⟨0,rfl,Zk _,Zn _ _ _ _,ZB⟩
 case round=>
  obtain⟨k,rfl,hk,ho,e9⟩:=hrel;have HO:=zh ho;have j:Hid (Below w7.heap.size w7 wr):=by rw[<-x.out];exact e9
  clear ho e9
  by_cases hlt:k<nA
  .have f9:(k:Int)<nA:=ω;obtain⟨A,c,hv,_⟩:=b_ HO;subst hv;obtain⟨sb,U⟩:=zx (ba (q k));have f7:=HQ k hlt;have j1:sb.size=N+1:=by rw[U,h_];exact f7
   obtain⟨b,hb⟩:=zx ((q k)[N]);have i9:∀ h:N<sb.size,(sb[N]'h).toNat=b.toNat:=λh=>by
    subst U;rw[hb];rfl
   have d:=b.toNat_lt;have j6:=G7 N ω;have j2:(N:Int)<(N:Int)+1:=ω;have d1:wr.cell? ⟨G,k,none⟩=some (.string sb):=by rw[U];exact(j.cell (p:=⟨G,k,none⟩) (aF (HG k hlt))).trans (HG k hlt)
   obtain⟨bb,a4⟩:=zx (af k);have i6:=zh a4;have j8:(((b.toNat:Nat):Int)==49)=bb:=by
    rw[a4,h8.out]
    simp only
    rw[getD_at ω,<-hb]
    by_cases e:b=49
    .subst e;rfl
    .have h1:(b==49)=false:=by simpa using e
     rw[h1]
     simp
     intro h2;exact e (UInt8.toNat_inj.1 (show b.toNat=(49:UInt8).toNat from by have:(49:UInt8).toNat=49:=rfl;omega))
   clear a4 hb f7 U;have D:Below wr.heap.size wr (wr.drew.alloc (.cells #[.bool bb] 4)):=(gN wr).alloc zq _;have c0:L<=wr.heap.size:=by rw[x.out];exact j.size
   have g7:=zh (ak HO (λz e=>D.block z (HO.lt z e).2));have d7:Hid ((wr.drew.alloc (.cells #[.bool bb] 4)).heap[wr.heap.size]?=some (.cells #[.bool bb] 4)):=Za wr.drew _;have i3:Hid (k<=1000):=by show _<=_;omega
   have e4:=zh (Zc c0 D.size);have d8:Hid (Below wr.heap.size wr (wr.drew.alloc (.cells #[.bool bb] 4))/\L<=wr.heap.size):=⟨D,c0⟩
   clear D c0;go_wp2
   go_region_law (refine kV rfl (.tmp 72) (.tmp 85) rfl rfl rfl g7 d7 i3 e4 ?_;intro v9 w9 h1 h2 h3;obtain⟨A9,c9,i5,_⟩:=b_ h1;subst i5;have h4:=zh h1;have i4:=zh ((d8.1.mono d8.2).trans (dQ h2 (λz e=>(HO.lt z e).1) e4));clear h1 h2 h3)
   all_goals
    go_wp2
    refine⟨⟨k+1,π,ω,?_,?_⟩,by simp[intOf]<;>omega⟩
    .rw[range_succ,map_append,map_append,map_cons,map_nil,map_cons,map_nil,<-i6.out];exact h4
    .have h7:=j;rw[<-x.out] at h7;exact h7.trans i4
  .have f9:¬(k:Int)<nA:=ω;obtain rfl:k=nA:=ω;obtain⟨ga,u,hv,d4,y⟩:∃ ga u,u16=.slice (some ⟨ga,0,none⟩) k u/\k<=u/\∀ i,i<k->wr.cell? ⟨ga,i,none⟩=some (.bool (af i)):=by
    rcases HO.2 with⟨h1,h2⟩|⟨ga,u,h0,hv,_,hg,i1,j5,j4,ht⟩
    .omega
    .refine⟨ga,u,hv,i1,λi hi=>?_⟩;have h3:(h0.toList.take (k*1))[i]?=some (.bool (af i)):=by rw[ht];simp[hi]
     rw[getElem?_take_of_lt ω] at h3;simp only[cell?,hg]
     simpa using h3
   subst hv;have H:=c6 wr ga V u cv d4 e3 y (λi z hi hz=>(j.cell (p:=⟨V,i*256+z,none⟩) (aF (HV i z hi hz))).trans (HV i z hi hz));have H:=zh H;have c8:=zh (b6.trans (j.mono b6.size));have a9:=zh ((j.block R (ZC b8)).trans b8);clear y c6 HO HG HV j b8 b6 e3 HQ;obtain⟨S,hS⟩:=zx (ba cls);have i7:=zh hS;rw[<-hS] at H;clear hS
   go_upto_region 23 with(go_at_call 49;refine H.mono ?_;rintro e w8 ⟨a1,a2,a3,n1,n2,n3,rfl,f6,d⟩;have b5:Hid ((∀ w2,Hi wr.heap.size w8 w2->cJ w2 ⟨fr,bk,0,cls,acc,nxt⟩ (.slice a1 a2 a3) (.slice n1 n2 n3))/\Below wr.heap.size wr w8):=⟨f6,d⟩;clear f6 d)
   obtain⟨B8,c4⟩:=zx w8.heap.size;obtain⟨W8,Y⟩:=zx (w8.alloc (.cells #[.bool fr,.bool bk,.int .i64 0,.string S,.slice a1 a2 a3,.slice n1 n2 n3] 33));have d:Below w8.heap.size w8 W8:=by rw[Y];exact fN _ _
   have b1:=b5.2.trans (d.mono b5.2.size);obtain⟨x0,x1,x2,x3,x4,x5⟩:=dH (show W8.heap[B8]?=some (.cells #[.bool fr,.bool bk,.int .i64 0,.string S,.slice a1 a2 a3,.slice n1 n2 n3] 33) by rw[Y,c4];exact Za w8 _);have e0:=zh ((b1.block R (ZC a9)).trans a9);have h9:=zh (c8.trans (b1.mono c8.size));have g8:=zh ((ZC a9));have h5:Hid (Hi wr.heap.size w8 W8):=Hi.of_below d;rw[<-Y,<-c4];clear Y c4 d b1;have rh:=e0.out;obtain⟨r0,r1,r2,r3,r4,r5⟩:=dH rh;have rz:∀ o,(W8).frozen? ⟨R,o,none⟩=false:=(λo=>by simp[frozen?,rh])
   clear rh;have g9:Hid (((((((W8.setCell ⟨R,0,none⟩ (.bool fr)).setCell ⟨R,1,none⟩ (.bool bk)).setCell ⟨R,2,none⟩ (.int .i64 0)).setCell ⟨R,3,none⟩ (.string S)).setCell ⟨R,4,none⟩ (.slice a1 a2 a3)).setCell ⟨R,5,none⟩ (.slice n1 n2 n3)).heap[R]?=some (.cells #[.bool fr,.bool bk,.int .i64 0,.string S,.slice a1 a2 a3,.slice n1 n2 n3] 33)):=kU e0 _ _ _ _ _ _;go_wp2
   obtain⟨g0,g1,g2,g3,g4,g5⟩:=dH g9;refine Zb (v:=.tuple #[.agg #[.bool fr,.bool bk,.int .i64 0,.string S,.slice a1 a2 a3,.slice n1 n2 n3],.int .i64 0,.int .i64 0]) (by simp[results,results15,go_sem,g0,g1,g2,g3,g4,g5]) rfl ?_;have h6:w.heap.size<=R:=by rw[i8.out];exact zq
   have r:=g8;refine⟨.slice a1 a2 a3,.slice n1 n2 n3,by rw[i7.out],λw2 h2=>b5.1 w2 ?_,jL h9 h6 _ _ _ _ _ _⟩;refine(((((((h5.setCell r 0 _).setCell r 1 _).setCell r 2 _).setCell r 3 _).setCell r 4 _).setCell r 5 _)).trans (h2.mono c8.size)
end Go.Proofs.YtbjabpodkaokjaaGreatDoor
