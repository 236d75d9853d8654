import Derived.Test.YtbjabpodkaokjaaGreatDoorDUd01
import Derived.Test.YtbjabpodkaokjaaGreatDoorS02
import Derived.Test.YtbjabpodkaokjaaGreatDoorS06
import Derived.Test.YtbjabpodkaokjaaGreatDoorJ34
import Derived.Test.YtbjabpodkaokjaaGreatDoorS09
set_option linter.unusedVariables false
set_option linter.unusedSimpArgs false
set_option maxHeartbeats 4000000
set_option maxRecDepth 100000
namespace Go.Proofs.YtbjabpodkaokjaaGreatDoor
open Sx (Prt Cnt)
theorem plus_app {L:Lng}{u v:List Nat} (h:lPlus L u) (g:lPlus L v):lPlus L (u++v):=by
 induction h with
 |one a=>exact .more a g
 |more a _ ih=>rw[List.append_assoc];exact .more a ih
def lStar (L:Lng):Lng:=lOpt (lPlus L)
theorem star_app {L:Lng}{u v:List Nat} (h:lStar L u) (g:lStar L v):lStar L (u++v):=by
 rcases h with rfl|h
 ·exact g
 ·rcases g with rfl|g
  ·rw[List.append_nil];exact .inr h
  ·exact .inr (plus_app h g)
theorem plus_into {L M:Lng} (h:∀ w,L w→lStar M w) {w:List Nat} (g:lPlus L w):lStar M w:=by
 induction g with
 |one a=>exact h _ a
 |more a _ ih=>exact star_app (h _ a) ih
theorem star_into {L M:Lng} (h:∀ w,L w→lStar M w) {w:List Nat} (g:lStar L w):lStar M w:=by
 rcases g with rfl|g
 ·exact .inl rfl
 ·exact plus_into h g
theorem star_one {L:Lng}{w:List Nat} (h:L w):lStar L w:=.inr (.one h)
theorem plus_front (L:Lng):lCat L (lStar L)=lPlus L:=lng_ext fun w=>by
 constructor
 ·rintro⟨u,v,rfl,hu,hv⟩
  rcases hv with rfl|hv
  ·rw[List.append_nil];exact .one hu
  ·exact .more hu hv
 ·intro h
  cases h with
  |one a=>exact⟨w,[],by simp,a,.inl rfl⟩
  |more a g=>exact⟨_,_,rfl,a,.inr g⟩
theorem plus_back (L:Lng):lCat (lStar L) L=lPlus L:=lng_ext fun w=>by
 constructor
 ·rintro⟨u,v,rfl,hu,hv⟩
  rcases hu with rfl|hu
  ·exact .one hv
  ·exact plus_app hu (.one hv)
 ·intro h
  induction h with
  |one a=>exact⟨[],_,rfl,.inl rfl,a⟩
  |more a g ih=>
   obtain⟨u,v,rfl,hu,hv⟩:=ih
   exact⟨_++u,v,by simp,star_app (star_one a) hu,hv⟩
theorem cat_assoc (A B C:Lng):lCat (lCat A B) C=lCat A (lCat B C):=lng_ext fun w=>lCat_assoc w
theorem cat_nil (A:Lng):lCat A lN=A:=lng_ext fun w=>lCat_nil w
theorem nil_cat (A:Lng):lCat lN A=A:=lng_ext fun w=>lCat_n (fun _=>Iff.rfl) w
theorem LK_g1 (t:KT):LK (.g1 t [])=LK t:=by simp[LK,cntsL]
theorem LK_g2 (t u:KT):LK (.g2 t u [])=lAlt (LK t) (LK u):=by simp[LK,cntsL]
theorem LK_star (t:KT):LK (.g1 t [.star])=lStar (LK t):=by simp[LK,cntsL,cntL,cnt,lStar]
theorem LK_plus (t:KT):LK (.g1 t [.plus])=lPlus (LK t):=by simp[LK,cntsL,cntL,cnt]
theorem LK_opt (t:KT):LK (.g1 t [.opt])=lOpt (LK t):=by simp[LK,cntsL,cntL,cnt]
theorem LK_br (t:KT):LK (.g1 t [.br 2 3])=lCat (LK t) (lCat (LK t) (lOpt (LK t))):=by
 have:LK (.g1 t [.br 2 3])=lCat (LK t) (lCat (LK t) (lOpt (lCat (LK t) lN))):=by simp[LK,cntsL,cntL,cnt,itL]
 rw[this,cat_nil]
theorem LK_inf (t:KT):LK (.g1 t [.inf 2])=lCat (LK t) (lCat (LK t) (lStar (LK t))):=by simp[LK,cntsL,cntL,cnt,itL,lStar]
theorem LK_ex (t:KT):LK (.g1 t [.ex 0])=lN:=by simp[LK,cntsL,cntL,cnt,itL]
theorem LK_ss (t:KT):LK (.g1 t [.star,.star])=lStar (lStar (LK t)):=by simp[LK,cntsL,cntL,cnt,lStar]
theorem LK_gs (t u:KT):LK (.g2 t u [.star])=lStar (lAlt (LK t) (LK u)):=by simp[LK,cntsL,cntL,cnt,lStar]
inductive AP where
 |one (t:KT)
 |two (t u:KT)
def AP.tx:AP→List UInt8
 |.one t=>Go.Proofs.YtbjabpodkaokjaaGreatDoor.tx t
 |.two t u=>Go.Proofs.YtbjabpodkaokjaaGreatDoor.tx t++124::Go.Proofs.YtbjabpodkaokjaaGreatDoor.tx u
def AP.cs:AP→List (List Prt)
 |.one t=>[toC t]
 |.two t u=>[toC t,toC u]
def AP.L:AP→Lng
 |.one t=>LK t
 |.two t u=>lAlt (LK t) (LK u)
def AP.g:AP→KT
 |.one t=>.g1 t []
 |.two t u=>.g2 t u []
def AP.ok:AP→Prop
 |.one t=>KOk t
 |.two t u=>KOk t∧KOk u
def AP.nst:AP→Nat
 |.one t=>nstK t
 |.two t u=>max (nstK t) (nstK u)
theorem AP.LCs (p:AP):LCs p.cs=p.L:=by
 cases p with
 |one t=>
  simp only[AP.cs,AP.L,Go.Proofs.YtbjabpodkaokjaaGreatDoor.LCs,LC_toC]
  exact lng_ext fun w=>by simp[lAlt,l0]
 |two t u=>
  simp only[AP.cs,AP.L,Go.Proofs.YtbjabpodkaokjaaGreatDoor.LCs,LC_toC]
  exact lng_ext fun w=>by simp[lAlt,l0]
theorem AP.read {p:AP} (h:p.ok) (f b:Bool):Sx.readP (begP f++(p.tx++endP b))=.ok ⟨f,b,p.cs⟩ []:=by
 cases p with
 |one t=>exact readP_one h f b
 |two t u=>
  simp only[AP.tx,List.append_assoc,List.cons_append]
  exact readP_two h.1 h.2 f b
theorem AP.nest (p:AP):Sx.nestCs p.cs=p.nst:=by
 cases p<;>simp[AP.cs,AP.nst,Sx.nestCs,nestC_toC]
theorem AP.g_ok {p:AP} (h:p.ok):KOk p.g:=by
 cases p with
 |one t=>exact⟨h,by simp⟩
 |two t u=>exact⟨h.1,h.2,by simp⟩
theorem AP.g_L (p:AP):LK p.g=p.L:=by
 cases p with
 |one t=>exact LK_g1 t
 |two t u=>exact LK_g2 t u
theorem AP.g_tx (p:AP):Go.Proofs.YtbjabpodkaokjaaGreatDoor.tx p.g=40::(p.tx++[41]):=by cases p<;>simp[AP.g,AP.tx,Go.Proofs.YtbjabpodkaokjaaGreatDoor.tx]
theorem AP.g_nst (p:AP):nstK p.g=1+p.nst:=by cases p<;>simp[AP.g,AP.nst,nstK]
def aOne (T U:KT):Nat→AP
 |0=>.two (.g1 T []) (.g1 U [])
 |1=>.two (.g1 T []) (.g1 T [])
 |2=>.one (.g1 T [.plus])
 |3=>.one (.g1 T [.br 2 3])
 |4=>.one (.g1 T [.star,.star])
 |5=>.one (.g1 T [.opt])
 |6=>.one (.g1 T [.inf 2])
 |7=>.two (.g1 (.cat (.g1 T []) (.g1 U [])) []) (.g1 T [])
 |8=>.one (.cat (.g1 U [.ex 0]) (.g1 T []))
 |_=>.one (.g2 (.g1 T [.star]) (.g1 U []) [.star])
def aTwo (T U:KT):Nat→AP
 |0=>.two (.g1 U []) (.g1 T [])
 |1=>.one (.g1 T [])
 |2=>.one (.cat (.g1 T []) (.g1 T [.star]))
 |3=>.one (.cat (.g1 T []) (.cat (.g1 T []) (.g1 T [.opt])))
 |4=>.one (.g1 T [.star])
 |5=>.two (.g1 T []) .nil
 |6=>.one (.cat (.g1 T [.star]) (.cat (.g1 T []) (.g1 T [])))
 |7=>.one (.cat (.g1 T []) (.g1 U [.opt]))
 |8=>.one (.g1 T [])
 |_=>.one (.g2 (.g1 U []) (.g1 T []) [.star])
theorem ten {k:Nat} (h:k<10):k=0∨k=1∨k=2∨k=3∨k=4∨k=5∨k=6∨k=7∨k=8∨k=9:=by omega
theorem alike_ok {T U:KT} (hT:KOk T) (hU:KOk U) {k:Nat} (hk:k<10):(aOne T U k).ok∧(aTwo T U k).ok:=by
 rcases ten hk with rfl|rfl|rfl|rfl|rfl|rfl|rfl|rfl|rfl|rfl<;>simp[aOne,aTwo,AP.ok,KOk,KcOk,hT,hU]
theorem alike_len {T U:KT}{n:Nat} (hT:(tx T).length≤n) (hU:(tx U).length≤n) {k:Nat} (hk:k<10):(aOne T U k).tx.length≤3*n+12∧(aTwo T U k).tx.length≤3*n+12:=by
 rcases ten hk with rfl|rfl|rfl|rfl|rfl|rfl|rfl|rfl|rfl|rfl<;>simp[aOne,aTwo,AP.tx,tx,txc]<;>omega
theorem alike_nst {T U:KT}{n:Nat} (hT:nstK T≤n) (hU:nstK U≤n) {k:Nat} (hk:k<10):(aOne T U k).nst≤n+2∧(aTwo T U k).nst≤n+2:=by
 rcases ten hk with rfl|rfl|rfl|rfl|rfl|rfl|rfl|rfl|rfl|rfl<;>simp[aOne,aTwo,AP.nst,nstK]<;>omega
theorem alike_L (T U:KT) {k:Nat} (hk:k<10):(aOne T U k).L=(aTwo T U k).L:=by
 rcases ten hk with rfl|rfl|rfl|rfl|rfl|rfl|rfl|rfl|rfl|rfl<;>simp only[aOne,aTwo,AP.L,LK_g1,LK_star,LK_plus,LK_opt,LK_br,LK_inf,LK_ex,LK_ss,LK_gs,show ∀ x y,LK (.cat x y)=lCat (LK x) (LK y) from fun _ _=>by simp only[LK],show LK .nil=lN from by simp only[LK]]
 ·exact lng_ext fun w=>Or.comm
 ·exact lng_ext fun w=>or_self_iff
 ·exact(plus_front _).symm
 ·exact lng_ext fun w=>⟨fun h=>star_into (fun _ g=>g) h,fun h=>star_one h⟩
 ·exact lng_ext fun w=>Or.comm
 ·rw[plus_front,←plus_back,←cat_assoc,plus_front,←plus_back,cat_assoc]
 ·refine lng_ext fun w=>⟨?_,?_⟩
  ·rintro(⟨u,v,rfl,hu,hv⟩|h)
   ·exact⟨u,v,rfl,hu,.inr hv⟩
   ·exact⟨w,[],by simp,h,.inl rfl⟩
  ·rintro⟨u,v,rfl,hu,hv⟩
   rcases hv with rfl|hv
   ·rw[List.append_nil];exact .inr hu
   ·exact .inl ⟨u,v,rfl,hu,hv⟩
 ·exact nil_cat _
 ·refine lng_ext fun w=>⟨fun h=>star_into ?_ h,fun h=>star_into ?_ h⟩
  ·rintro w (h|h)
   ·exact star_into (fun _ g=>star_one (.inr g)) h
   ·exact star_one (.inl h)
  ·rintro w (h|h)
   ·exact star_one (.inr h)
   ·exact star_one (.inl (star_one h))
def wrp:Nat→AP→AP
 |0,p=>p
 |1,p=>.one p.g
 |2,p=>.one p.g
 |_,p=>.one (.g1 p.g [])
def wF (e:Nat):Bool:=e%2==1
def wB (e:Nat):Bool:=decide (1<e)
def wTx (e:Nat) (p:AP):List UInt8:=begP (wF e)++((wrp e p).tx++endP (wB e))
theorem wrp_L (e:Nat) (p:AP):(wrp e p).L=p.L:=by
 unfold wrp
 split
 ·rfl
 ·exact p.g_L
 ·exact p.g_L
 ·simp only[AP.L,LK_g1];exact p.g_L
theorem wrp_ok (e:Nat) {p:AP} (h:p.ok):(wrp e p).ok:=by
 unfold wrp
 split
 ·exact h
 ·exact p.g_ok h
 ·exact p.g_ok h
 ·exact⟨p.g_ok h,by simp⟩
theorem wrp_len (e:Nat) (p:AP):(wrp e p).tx.length≤p.tx.length+4:=by
 unfold wrp
 split
 ·omega
 ·simp[AP.tx,AP.g_tx]
 ·simp[AP.tx,AP.g_tx]
 ·simp[AP.tx,tx,AP.g_tx]
theorem wrp_nst (e:Nat) (p:AP):(wrp e p).nst≤p.nst+2:=by
 unfold wrp
 split
 ·omega
 ·simp only[AP.nst,AP.g_nst];omega
 ·simp only[AP.nst,AP.g_nst];omega
 ·simp only[AP.nst,nstK,AP.g_nst];omega
theorem wTx_len (e:Nat) (p:AP):(wTx e p).length≤p.tx.length+6:=by
 have:=wrp_len e p
 have h1:(begP (wF e)).length≤1:=by cases wF e<;>simp[begP]
 have h2:(endP (wB e)).length≤1:=by cases wB e<;>simp[endP]
 unfold wTx
 simp only[List.length_append]
 omega
theorem alike_two {T U:KT} (hT:KOk T) (hU:KOk U) (lT:(tx T).length≤53) (lU:(tx U).length≤53) (nT:nstK T≤4) (nU:nstK U≤4) (e:Nat) {k:Nat} (hk:k<10) :
  (compM (wTx e (aOne T U k)) 200=.inl (4,0)∨∃ t,compM (wTx e (aOne T U k)) 200=.inr t)∧(compM (wTx e (aTwo T U k)) 200=.inl (4,0)∨∃ t,compM (wTx e (aTwo T U k)) 200=.inr t)∧∀ t t',compM (wTx e (aOne T U k)) 200=.inr t→compM (wTx e (aTwo T U k)) 200=.inr t'→t=t'∧Small t:=by
 obtain⟨o1,o2⟩:=alike_ok hT hU hk
 obtain⟨l1,l2⟩:=alike_len lT lU hk
 obtain⟨n1,n2⟩:=alike_nst nT nU hk
 have w1:=wTx_len e (aOne T U k)
 have w2:=wTx_len e (aTwo T U k)
 have m1:=wrp_nst e (aOne T U k)
 have m2:=wrp_nst e (aTwo T U k)
 have c1:=compM_ptn (AP.read (wrp_ok e o1) (wF e) (wB e)) (show(wTx e (aOne T U k)).length≤200 by omega) (by rw[AP.nest];omega)
 have c2:=compM_ptn (AP.read (wrp_ok e o2) (wF e) (wB e)) (show(wTx e (aTwo T U k)).length≤200 by omega) (by rw[AP.nest];omega)
 refine⟨c1.imp (fun h=>h.1) (fun⟨t,_,_,h,_⟩=>⟨_,h⟩),c2.imp (fun h=>h.1) (fun⟨t,_,_,h,_⟩=>⟨_,h⟩),fun a b ha hb=>?_⟩
 change compM (begP (wF e)++((wrp e (aOne T U k)).tx++endP (wB e))) 200=.inr a at ha
 change compM (begP (wF e)++((wrp e (aTwo T U k)).tx++endP (wB e))) 200=.inr b at hb
 rcases c1 with⟨h,-⟩|⟨t,n,c,h,hF,hn,hc,hf,hb1,ha1⟩
 ·rw[h] at ha;cases ha
 ·rcases c2 with⟨h',-⟩|⟨t',n',c',h',hF',hn',hc',hf',hb',ha'⟩
  ·rw[h'] at hb;cases hb
  ·rw[h] at ha
   rw[h'] at hb
   injection ha with ha
   injection hb with hb
   subst ha;subst hb
   have:=leastM_same hF hF' hn hn' (hf.trans hf'.symm) (hb1.trans hb'.symm) (fun u=>by
    rw[Bool.eq_iff_iff,ha1 u,ha' u,AP.LCs,AP.LCs,wrp_L,wrp_L,alike_L T U hk])
   rw[this]
   exact⟨rfl,(least_small hF'.ok hn' hc').2⟩
open Go.RowKit
theorem pk10 {c:Int} (h1:-9223372036854775808≤c) (h2:c≤9223372036854775807):∃ k:Nat,k<10∧∀ w,Calls Tryz.prog 21 #[.int .i64 c,.int .i64 10] w fun e w'=>e=.returned (.int .i64 k)∧w'=w:=
 ⟨pkN c 10,pkN_lt c 10 (by omega),fun w=>kpick_any w c 10 h1 h2 (by omega) (by omega)⟩
theorem grow3 {w W:World}{v:Value}{l:List Int} (h:Raw w.heap.size w v l) (hW:Below w.heap.size w W):Calls Tryz.prog 27 #[v,.int .i64 3] W fun e w'=>∃ p v' t,e=.returned (.tuple #[.pointer (some ⟨p,0,none⟩),v'])∧HTAt W.heap.size w' p t∧HTOk 3 t∧Below W.heap.size W w':=
 (grown_any 3 (by omega) _ W v l hW.size (h.below hW)).mono (fun e w' ⟨p,v',t,l',h1,h2,h3,_,h5⟩=>⟨p,v',t,h1,h2,h3,h5⟩)
theorem ten_cells {w:World}{b:Nat}{x0 x1 x2 x3 x4 x5 x6 x7 x8 x9:Value}{T:TypeId} (h:w.heap[b]?=some (.cells #[x0,x1,x2,x3,x4,x5,x6,x7,x8,x9] T)) {f:Nat→Value} (e0:x0=f 0) (e1:x1=f 1) (e2:x2=f 2) (e3:x3=f 3) (e4:x4=f 4) (e5:x5=f 5) (e6:x6=f 6) (e7:x7=f 7) (e8:x8=f 8) (e9:x9=f 9):∀ j,j<10→w.cell? ⟨b,j,none⟩=some (f j):=by
 subst e0 e1 e2 e3 e4 e5 e6 e7 e8 e9
 intro j hj
 rcases ten hj with rfl|rfl|rfl|rfl|rfl|rfl|rfl|rfl|rfl|rfl<;>simp[World.cell?,h]
theorem br_eq (t:HT):(⟨#[40]⟩:ByteArray)++ba (tx (kt t))++⟨#[41]⟩=ba (tx (.g1 (kt t) [])):=by
 rw[show(⟨#[40]⟩:ByteArray)=ba [40] from rfl,show(⟨#[41]⟩:ByteArray)=ba [41] from rfl,ba_cat,ba_cat]
 simp[tx]
theorem one_eqs {T U:KT}{x y:ByteArray} (hx:x=ba (tx (.g1 T []))) (hy:y=ba (tx (.g1 U []))):x++(⟨#[124]⟩:ByteArray)++y=ba (aOne T U 0).tx∧x++(⟨#[124]⟩:ByteArray)++x=ba (aOne T U 1).tx∧x++(⟨#[43]⟩:ByteArray)=ba (aOne T U 2).tx∧x++(⟨#[123,50,44,51,125]⟩:ByteArray)=ba (aOne T U 3).tx∧x++(⟨#[42,42]⟩:ByteArray)=ba (aOne T U 4).tx∧x++(⟨#[63]⟩:ByteArray)=ba (aOne T U 5).tx∧x++(⟨#[123,50,44,125]⟩:ByteArray)=ba (aOne T U 6).tx∧(⟨#[40]⟩:ByteArray)++x++y++(⟨#[41]⟩:ByteArray)++(⟨#[124]⟩:ByteArray)++x=ba (aOne T U 7).tx∧y++(⟨#[123,48,125]⟩:ByteArray)++x=ba (aOne T U 8).tx∧(⟨#[40]⟩:ByteArray)++x++(⟨#[42,124]⟩:ByteArray)++y++(⟨#[41,42]⟩:ByteArray)=ba (aOne T U 9).tx:=by
 subst hx;subst hy
 simp only[show(⟨#[124]⟩:ByteArray)=ba [124] from rfl,show(⟨#[43]⟩:ByteArray)=ba [43] from rfl,show(⟨#[123,50,44,51,125]⟩:ByteArray)=ba [123,50,44,51,125] from rfl,show(⟨#[42,42]⟩:ByteArray)=ba [42,42] from rfl,show(⟨#[63]⟩:ByteArray)=ba [63] from rfl,show(⟨#[123,50,44,125]⟩:ByteArray)=ba [123,50,44,125] from rfl,show(⟨#[40]⟩:ByteArray)=ba [40] from rfl,show(⟨#[41]⟩:ByteArray)=ba [41] from rfl,show(⟨#[123,48,125]⟩:ByteArray)=ba [123,48,125] from rfl,show(⟨#[42,124]⟩:ByteArray)=ba [42,124] from rfl,show(⟨#[41,42]⟩:ByteArray)=ba [41,42] from rfl,show(⟨#[42]⟩:ByteArray)=ba [42] from rfl,ba_cat]
 refine⟨?_,?_,?_,?_,?_,?_,?_,?_,?_,?_⟩<;>(congr 1<;>first|rfl|(simp[aOne,AP.tx,tx,txc,dg];done))
theorem two_eqs {T U:KT}{x y:ByteArray} (hx:x=ba (tx (.g1 T []))) (hy:y=ba (tx (.g1 U []))):y++(⟨#[124]⟩:ByteArray)++x=ba (aTwo T U 0).tx∧x=ba (aTwo T U 1).tx∧x++x++(⟨#[42]⟩:ByteArray)=ba (aTwo T U 2).tx∧x++x++x++(⟨#[63]⟩:ByteArray)=ba (aTwo T U 3).tx∧x++(⟨#[42]⟩:ByteArray)=ba (aTwo T U 4).tx∧x++(⟨#[124]⟩:ByteArray)=ba (aTwo T U 5).tx∧x++(⟨#[42]⟩:ByteArray)++x++x=ba (aTwo T U 6).tx∧x++y++(⟨#[63]⟩:ByteArray)=ba (aTwo T U 7).tx∧x=ba (aTwo T U 8).tx∧(⟨#[40]⟩:ByteArray)++y++(⟨#[124]⟩:ByteArray)++x++(⟨#[41,42]⟩:ByteArray)=ba (aTwo T U 9).tx:=by
 subst hx;subst hy
 simp only[show(⟨#[124]⟩:ByteArray)=ba [124] from rfl,show(⟨#[43]⟩:ByteArray)=ba [43] from rfl,show(⟨#[123,50,44,51,125]⟩:ByteArray)=ba [123,50,44,51,125] from rfl,show(⟨#[42,42]⟩:ByteArray)=ba [42,42] from rfl,show(⟨#[63]⟩:ByteArray)=ba [63] from rfl,show(⟨#[123,50,44,125]⟩:ByteArray)=ba [123,50,44,125] from rfl,show(⟨#[40]⟩:ByteArray)=ba [40] from rfl,show(⟨#[41]⟩:ByteArray)=ba [41] from rfl,show(⟨#[123,48,125]⟩:ByteArray)=ba [123,48,125] from rfl,show(⟨#[42,124]⟩:ByteArray)=ba [42,124] from rfl,show(⟨#[41,42]⟩:ByteArray)=ba [41,42] from rfl,show(⟨#[42]⟩:ByteArray)=ba [42] from rfl,ba_cat]
 refine⟨?_,?_,?_,?_,?_,?_,?_,?_,?_,?_⟩<;>(congr 1<;>first|rfl|(simp[aTwo,AP.tx,tx,txc,dg];done))
theorem w_eqs (p:AP) {P:ByteArray} (hP:P=ba p.tx):P=ba (wTx 0 p)∧(⟨#[94,40]⟩:ByteArray)++P++(⟨#[41]⟩:ByteArray)=ba (wTx 1 p)∧(⟨#[40]⟩:ByteArray)++P++(⟨#[41,36]⟩:ByteArray)=ba (wTx 2 p)∧(⟨#[94,40,40]⟩:ByteArray)++P++(⟨#[41,41,36]⟩:ByteArray)=ba (wTx 3 p):=by
 subst hP
 simp only[show(⟨#[94,40]⟩:ByteArray)=ba [94,40] from rfl,show(⟨#[41]⟩:ByteArray)=ba [41] from rfl,show(⟨#[40]⟩:ByteArray)=ba [40] from rfl,show(⟨#[41,36]⟩:ByteArray)=ba [41,36] from rfl,show(⟨#[94,40,40]⟩:ByteArray)=ba [94,40,40] from rfl,show(⟨#[41,41,36]⟩:ByteArray)=ba [41,41,36] from rfl,ba_cat]
 refine⟨?_,?_,?_,?_⟩
 ·congr 1;simp[wTx,wF,wB,begP,endP,wrp]
 ·congr 1;simp[wTx,wF,wB,begP,endP,wrp,AP.tx,AP.g_tx]
 ·congr 1;simp[wTx,wF,wB,begP,endP,wrp,AP.tx,AP.g_tx]
 ·congr 1;simp[wTx,wF,wB,begP,endP,wrp,AP.tx,tx,AP.g_tx]
theorem one_head (T U:KT) {k:Nat} (hk:k<10):∃ r,(aOne T U k).tx=40::r:=by
 rcases ten hk with rfl|rfl|rfl|rfl|rfl|rfl|rfl|rfl|rfl|rfl<;>simp[aOne,AP.tx,tx]
theorem ix_two (T U:KT) {k:Nat} (hk:k<10) {P s:ByteArray} (hP:P=ba (aOne T U k).tx) (hs:s=(⟨#[40]⟩:ByteArray)++P++(⟨#[41,36]⟩:ByteArray)):1<s.size∧∀ h:1<s.size,(s[1]'h).toNat=40:=by
 obtain⟨r,hr⟩:=one_head T U hk
 have:s=ba (40::40::(r++[41,36])):=by
  rw[hs,hP,hr,show(⟨#[40]⟩:ByteArray)=ba [40] from rfl,show(⟨#[41,36]⟩:ByteArray)=ba [41,36] from rfl,ba_cat,ba_cat]
  rfl
 subst this
 exact⟨by rw[ba_size];simp,fun h=>rfl⟩
theorem ix_three {P s:ByteArray} (hs:s=(⟨#[40]⟩:ByteArray)++((⟨#[94,40]⟩:ByteArray)++P++(⟨#[41]⟩:ByteArray))++(⟨#[41,36]⟩:ByteArray)):1<s.size∧∀ h:1<s.size,(s[1]'h).toNat=94:=by
 obtain⟨l,rfl⟩:∃ l,P=ba l:=⟨P.data.toList,rfl⟩
 have:s=ba (40::94::40::(l++[41,41,36])):=by
  rw[hs,show(⟨#[40]⟩:ByteArray)=ba [40] from rfl,show(⟨#[41,36]⟩:ByteArray)=ba [41,36] from rfl,show(⟨#[94,40]⟩:ByteArray)=ba [94,40] from rfl,show(⟨#[41]⟩:ByteArray)=ba [41] from rfl,ba_cat,ba_cat,ba_cat,ba_cat]
  congr 1
  simp
 subst this
 exact⟨by rw[ba_size];simp,fun h=>rfl⟩
def CpN (w:World) (S:ByteArray):Prop:=∀ W,Below w.heap.size w W→Calls Tryz.prog 29 #[.string S] W fun e w'=>e=.returned (.tuple #[.pointer none,.bool true])∧Below W.heap.size W w'
def CpY (w:World) (S:ByteArray) (T:Tb):Prop:=∀ W,Below w.heap.size w W→Calls Tryz.prog 29 #[.string S] W fun e w'=>∃ m c,e=.returned (.tuple #[.pointer (some ⟨m,0,none⟩),.bool true])∧Mch w' m T c∧Below W.heap.size W w'
theorem alike_cp {w:World} (hS:Sx.Tabs w) (hT:TabZ w) {t u:HT} (ht:HTOk 3 t) (hu:HTOk 3 u) (e:Nat) {k:Nat} (hk:k<10) {S1 S2:ByteArray} (h1:S1=ba (wTx e (aOne (kt t) (kt u) k))) (h2:S2=ba (wTx e (aTwo (kt t) (kt u) k))) :
  (CpN w S1∧CpN w S2)∨(∃ T,CpN w S1∧CpY w S2 T)∨(∃ T,CpY w S1 T∧CpN w S2)∨(∃ T,Small T∧CpY w S1 T∧CpY w S2 T):=by
 have l1:=tx_len ht
 have l2:=tx_len hu
 simp only[szK] at l1 l2
 obtain⟨a1,a2⟩:=alike_len (n:=53) l1.1 l2.1 hk
 have b1:=wTx_len e (aOne (kt t) (kt u) k)
 have b2:=wTx_len e (aTwo (kt t) (kt u) k)
 obtain⟨c1,c2,c3⟩:=alike_two (kt_ok ht) (kt_ok hu) l1.1 l2.1 (by omega) (by omega) e hk
 subst h1;subst h2
 rcases c1 with c1|⟨T,c1⟩<;>rcases c2 with c2|⟨T',c2⟩
 ·exact .inl ⟨fun W hW=>cpd_no hS hT hW (by omega) c1,fun W hW=>cpd_no hS hT hW (by omega) c2⟩
 ·exact .inr (.inl ⟨T',fun W hW=>cpd_no hS hT hW (by omega) c1,fun W hW=>cpd_yes hS hT hW (by omega) c2⟩)
 ·exact .inr (.inr (.inl ⟨T,fun W hW=>cpd_yes hS hT hW (by omega) c1,fun W hW=>cpd_no hS hT hW (by omega) c2⟩))
 ·obtain⟨rfl,hs⟩:=c3 T T' c1 c2
  exact .inr (.inr (.inr ⟨T,hs,fun W hW=>cpd_yes hS hT hW (by omega) c1,fun W hW=>cpd_yes hS hT hW (by omega) c2⟩))
theorem alike_any (w:World) (v v2:Value) (l l2:List Int) (ends which:Int) (hS:Sx.Tabs w) (hT:TabZ w) (hr:Raw w.heap.size w v l) (hr2:Raw w.heap.size w v2 l2) (r1:-9223372036854775808≤ends∧ends≤9223372036854775807) (r2:-9223372036854775808≤which∧which≤9223372036854775807) :
  Calls Tryz.prog 8 #[v,v2,.int .i64 ends,.int .i64 which] w fun e w'=>e=.returned (.bool true)∧Below w.heap.size w w':=by
 have HPL:Hid (Calls Tryz.prog 20 #[] w fun e w'=>e=.returned (.bool true)∧Below w.heap.size w w'):=plain_yes w hS hT
 have HG1:Hid (∀ W,Below w.heap.size w W→Calls Tryz.prog 27 #[v,.int .i64 3] W fun e w'=>∃ p v' t,e=.returned (.tuple #[.pointer (some ⟨p,0,none⟩),v'])∧HTAt W.heap.size w' p t∧HTOk 3 t∧Below W.heap.size W w'):=fun W hW=>grow3 hr hW
 have HG2:Hid (∀ W,Below w.heap.size w W→Calls Tryz.prog 27 #[v2,.int .i64 3] W fun e w'=>∃ p v' t,e=.returned (.tuple #[.pointer (some ⟨p,0,none⟩),v'])∧HTAt W.heap.size w' p t∧HTOk 3 t∧Below W.heap.size W w'):=fun W hW=>grow3 hr2 hW
 obtain⟨k,hk,hpk⟩:=pk10 r2.1 r2.2
 obtain⟨e4,he4,hpe⟩:=pk4 r1.1 r1.2
 have HPK:Hid (∀ w,Calls Tryz.prog 21 #[.int .i64 which,.int .i64 10] w fun e w'=>e=.returned (.int .i64 k)∧w'=w):=hpk
 have HPE:Hid (∀ w,Calls Tryz.prog 21 #[.int .i64 ends,.int .i64 4] w fun e w'=>e=.returned (.int .i64 e4)∧w'=w):=hpe
 have HS:Hid (Sx.Tabs w):=hS
 have HTZ:Hid (TabZ w):=hT
 clear hr hr2 hS hT hpk hpe
 go_enter Tryz.func8,Tryz.ntmps8
 go_upto_region 2 with(go_at_call 20;refine HPL.out.mono ?_;rintro e w1 ⟨rfl,hb1⟩;have HB1:Hid (Below w.heap.size w w1):=hb1;clear hb1)
 go_upto_region 3 with(go_at_call 27;refine(HG1.out _ HB1.out).mono ?_;rintro e w2 ⟨p,v',t,rfl,ht2,ho2,hb2⟩;have HT2:Hid (HTAt w1.heap.size w2 p t):=ht2;have HO2:Hid (HTOk 3 t):=ho2;have HB2:Hid (Below w.heap.size w w2):=HB1.out.trans (hb2.mono HB1.out.size);clear ht2 ho2 hb2)
 go_upto_region 4 with(go_at_call 27;refine(HG2.out _ HB2.out).mono ?_;rintro e w3 ⟨q,v'',u,rfl,ht3,ho3,hb3⟩;have HU3:Hid (HTAt w2.heap.size w3 q u):=ht3;have HT3:Hid (HTAt w1.heap.size w3 p t):=HT2.out.below hb3;have HO3:Hid (HTOk 3 u):=ho3;have HB3:Hid (Below w.heap.size w w3):=HB2.out.trans (hb3.mono HB2.out.size);clear ht3 ho3 hb3)
 clear HT2 HB2 HB1 HPL HG1 HG2
 have l1:=(tx_len HO2.out).1
 have l2:=(tx_len HO3.out).1
 simp only[szK] at l1 l2
 obtain⟨X,hX⟩:∃ X,X=ba (tx (kt t)):=⟨_,rfl⟩
 obtain⟨Y,hY⟩:∃ Y,Y=ba (tx (kt u)):=⟨_,rfl⟩
 have sX:X.size≤53:=by rw[hX,ba_size];omega
 have sY:Y.size≤53:=by rw[hY,ba_size];omega
 have HX:Hid (X=ba (tx (kt t))):=hX
 have HY:Hid (Y=ba (tx (kt u))):=hY
 have HTX:Hid (∀ W,Below w3.heap.size w3 W→Calls Tryz.prog 28 #[.pointer (some ⟨p,0,none⟩)] W fun e w'=>e=.returned (.string X)∧Below W.heap.size W w'):=fun W hW=>by rw[hX];exact text_any HO2.out (by omega) (HT3.out.below hW)
 have HTY:Hid (∀ W,Below w3.heap.size w3 W→Calls Tryz.prog 28 #[.pointer (some ⟨q,0,none⟩)] W fun e w'=>e=.returned (.string Y)∧Below W.heap.size W w'):=fun W hW=>by rw[hY];exact text_any HO3.out (by omega) (HU3.out.below hW)
 have HL1:Hid ((tx (kt t)).length≤53):=l1
 have HL2:Hid ((tx (kt u)).length≤53):=l2
 clear hX hY l1 l2
 go_upto_region 5 with(go_at_call 28;refine(HTX.out _ (Below.refl _ _)).mono ?_;rintro e w4 ⟨rfl,hb4⟩;have HL4:Hid (Below w3.heap.size w3 w4):=hb4;clear hb4)
 go_upto_region 6 with(go_at_call 28;refine(HTY.out _ HL4.out).mono ?_;rintro e w5 ⟨rfl,hb5⟩;have HB5:Hid (Below w.heap.size w w5):=HB3.out.trans ((HL4.out.trans (hb5.mono HL4.out.size)).mono HB3.out.size);clear hb5)
 clear HTX HTY HT3 HU3 HB3 HL4
 obtain⟨x,hx⟩:∃ x,x=(⟨#[40]⟩:ByteArray)++X++⟨#[41]⟩:=⟨_,rfl⟩
 obtain⟨y,hy⟩:∃ y,y=(⟨#[40]⟩:ByteArray)++Y++⟨#[41]⟩:=⟨_,rfl⟩
 have HXX:Hid (x=ba (tx (.g1 (kt t) []))):=by show _=_;rw[hx,HX.out];exact br_eq t
 have HYY:Hid (y=ba (tx (.g1 (kt u) []))):=by show _=_;rw[hy,HY.out];exact br_eq u
 have sx:x.size≤55:=by
  have:=HXX.out
  have:=HL1.out
  subst x
  rw[ba_size];simp[tx];omega
 have sy:y.size≤55:=by
  have:=HYY.out
  have:=HL2.out
  subst y
  rw[ba_size];simp[tx];omega
 rw[←hx,←hy]
 clear hx hy HX HY sX sY
 go_cut [16] from 49 to 86 (fun u16 wc=>∃ g,u16=.slice (some ⟨g,0,none⟩) 10 10∧(∀ W,Below wc.heap.size wc W→∀ j,j<10→W.cell? ⟨g,j,none⟩=some (.string (ba (aOne (kt t) (kt u) j).tx)))∧Below w.heap.size w wc)
 case first=>
  go_wp2
  go_meet
  obtain⟨q0,q1,q2,q3,q4,q5,q6,q7,q8,q9⟩:=one_eqs (T:=kt t) (U:=kt u) HXX.out HYY.out
  refine⟨_,rfl,fun W hW=>?_,HB5.out.alloc HB5.out.size _⟩
  refine ten_cells (f:=fun j=>.string (ba (aOne (kt t) (kt u) j).tx)) ((hW.block _ (by simp)).trans (heap_alloc_new w5 _)) ?_ ?_ ?_ ?_ ?_ ?_ ?_ ?_ ?_ ?_
  ·rw[q0]
  ·rw[q1]
  ·rw[q2]
  ·rw[q3]
  ·rw[q4]
  ·rw[q5]
  ·rw[q6]
  ·rw[q7]
  ·rw[q8]
  ·rw[q9]
 case rest=>
 obtain⟨g1,rfl,hc1,hbc⟩:=hcut
 rename World=>w6
 have HC1:Hid (∀ W,Below w6.heap.size w6 W→∀ j,j<10→W.cell? ⟨g1,j,none⟩=some (.string (ba (aOne (kt t) (kt u) j).tx))):=hc1
 have HBC:Hid (Below w.heap.size w w6):=hbc
 clear hc1 hbc HB5
 go_upto_region 7 with(fail)
 go_cut [17] from 86 to 123 (fun u17 wd=>∃ g,u17=.slice (some ⟨g,0,none⟩) 10 10∧(∀ W,Below wd.heap.size wd W→∀ j,j<10→W.cell? ⟨g,j,none⟩=some (.string (ba (aTwo (kt t) (kt u) j).tx)))∧Below w6.heap.size w6 wd)
 case first=>
  go_wp2
  go_meet
  obtain⟨q0,q1,q2,q3,q4,q5,q6,q7,q8,q9⟩:=two_eqs (T:=kt t) (U:=kt u) HXX.out HYY.out
  refine⟨_,rfl,fun W hW=>?_,(Below.refl _ _).alloc (Nat.le_refl _) _⟩
  refine ten_cells (f:=fun j=>.string (ba (aTwo (kt t) (kt u) j).tx)) ((hW.block _ (by simp)).trans (heap_alloc_new w6 _)) ?_ ?_ ?_ ?_ ?_ ?_ ?_ ?_ ?_ ?_
  ·rw[q0]
  ·rw[q1]
  ·rw[q2]
  ·rw[q3]
  ·rw[q4]
  ·rw[q5]
  ·rw[q6]
  ·rw[q7]
  ·rw[q8]
  ·rw[q9]
 case rest=>
 obtain⟨g2,rfl,hc2,hbd⟩:=hcut
 rename World=>w7
 have d1:=HC1.out w7 hbd k hk
 have d2:=hc2 w7 (Below.refl _ _) k hk
 have HBD:Hid (Below w.heap.size w w7):=HBC.out.trans (hbd.mono HBC.out.size)
 obtain⟨lo,lt⟩:=alike_len (T:=kt t) (U:=kt u) HL1.out HL2.out hk
 obtain⟨P,hP⟩:∃ P,P=ba (aOne (kt t) (kt u) k).tx:=⟨_,rfl⟩
 obtain⟨Q,hQ⟩:∃ Q,Q=ba (aTwo (kt t) (kt u) k).tx:=⟨_,rfl⟩
 rw[←hP] at d1
 rw[←hQ] at d2
 have sP:P.size≤171:=by rw[hP,ba_size];omega
 have sQ:Q.size≤171:=by rw[hQ,ba_size];omega
 have HP:Hid (P=ba (aOne (kt t) (kt u) k).tx):=hP
 have HQ:Hid (Q=ba (aTwo (kt t) (kt u) k).tx):=hQ
 have hkI:(k:Int)<10:=by omega
 clear hc2 hbd hP hQ lo lt HC1 HBC HXX HYY sx sy
 go_upto_region 11 with(go_at_call 21;refine(HPK.out _).mono ?_;rintro e w8 ⟨rfl,hw8⟩;obtain rfl:=hw8.symm)
 obtain⟨a0,a1,a2,a3⟩:=w_eqs _ HP.out
 obtain⟨b0,b1,b2,b3⟩:=w_eqs _ HQ.out
 have HE0:Hid (_∧_):=⟨a0,b0⟩
 have HE1:Hid (_∧_):=⟨a1,b1⟩
 have HE2:Hid (_∧_):=⟨a2,b2⟩
 have HE3:Hid (_∧_):=⟨a3,b3⟩
 clear a0 a1 a2 a3 b0 b1 b2 b3
 rcases he4 with rfl|rfl|rfl|rfl
 focus
  have HP4:Hid (∀ w,Calls Tryz.prog 21 #[.int .i64 ends,.int .i64 4] w fun e w'=>e=.returned (.int .i64 0)∧w'=w):=HPE.out
  clear HPE
  go_upto_region 20 with(go_at_call 21;refine(HP4.out _).mono ?_;rintro e w8 ⟨rfl,hw8⟩;obtain rfl:=hw8.symm)
  obtain⟨S1,hS1⟩:∃ S1,S1=P:=⟨_,rfl⟩
  obtain⟨S2,hS2⟩:∃ S2,S2=Q:=⟨_,rfl⟩
  have HAL:Hid ((CpN w S1∧CpN w S2)∨(∃ T,CpN w S1∧CpY w S2 T)∨(∃ T,CpY w S1 T∧CpN w S2)∨(∃ T,Small T∧CpY w S1 T∧CpY w S2 T)):=alike_cp HS.out HTZ.out HO2.out HO3.out 0 hk (hS1.trans HE0.out.1) (hS2.trans HE0.out.2)
  rw[←hS1,←hS2]
  clear hS1 hS2 HP4
 rotate_left
 focus
  have HP4:Hid (∀ w,Calls Tryz.prog 21 #[.int .i64 ends,.int .i64 4] w fun e w'=>e=.returned (.int .i64 1)∧w'=w):=HPE.out
  clear HPE
  go_upto_region 20 with(go_at_call 21;refine(HP4.out _).mono ?_;rintro e w8 ⟨rfl,hw8⟩;obtain rfl:=hw8.symm)
  obtain⟨S1,hS1⟩:∃ S1,S1=(⟨#[94,40]⟩:ByteArray)++P++(⟨#[41]⟩:ByteArray):=⟨_,rfl⟩
  obtain⟨S2,hS2⟩:∃ S2,S2=(⟨#[94,40]⟩:ByteArray)++Q++(⟨#[41]⟩:ByteArray):=⟨_,rfl⟩
  have HAL:Hid ((CpN w S1∧CpN w S2)∨(∃ T,CpN w S1∧CpY w S2 T)∨(∃ T,CpY w S1 T∧CpN w S2)∨(∃ T,Small T∧CpY w S1 T∧CpY w S2 T)):=alike_cp HS.out HTZ.out HO2.out HO3.out 1 hk (hS1.trans HE1.out.1) (hS2.trans HE1.out.2)
  rw[←hS1,←hS2]
  clear hS1 hS2 HP4
 rotate_left
 focus
  have HP4:Hid (∀ w,Calls Tryz.prog 21 #[.int .i64 ends,.int .i64 4] w fun e w'=>e=.returned (.int .i64 2)∧w'=w):=HPE.out
  clear HPE
  go_upto_region 17 with(go_at_call 21;refine(HP4.out _).mono ?_;rintro e w8 ⟨rfl,hw8⟩;obtain rfl:=hw8.symm)
  obtain⟨s1,hs1⟩:∃ s1,s1=(⟨#[40]⟩:ByteArray)++P++(⟨#[41,36]⟩:ByteArray):=⟨_,rfl⟩
  obtain⟨hz,hix⟩:=ix_two (kt t) (kt u) hk HP.out hs1
  have HS1:Hid (s1=_):=hs1
  rw[←hs1]
  have hzI:(1:Int)<s1.size:=by omega
  clear hs1
  go_upto_region 20 with(fail)
  rw[HS1.out]
  clear hix hz hzI HS1
  obtain⟨S1,hS1⟩:∃ S1,S1=(⟨#[40]⟩:ByteArray)++P++(⟨#[41,36]⟩:ByteArray):=⟨_,rfl⟩
  obtain⟨S2,hS2⟩:∃ S2,S2=(⟨#[40]⟩:ByteArray)++Q++(⟨#[41,36]⟩:ByteArray):=⟨_,rfl⟩
  have HAL:Hid ((CpN w S1∧CpN w S2)∨(∃ T,CpN w S1∧CpY w S2 T)∨(∃ T,CpY w S1 T∧CpN w S2)∨(∃ T,Small T∧CpY w S1 T∧CpY w S2 T)):=alike_cp HS.out HTZ.out HO2.out HO3.out 2 hk (hS1.trans HE2.out.1) (hS2.trans HE2.out.2)
  rw[←hS1,←hS2]
  clear hS1 hS2 HP4
 rotate_left
 focus
  have HP4:Hid (∀ w,Calls Tryz.prog 21 #[.int .i64 ends,.int .i64 4] w fun e w'=>e=.returned (.int .i64 3)∧w'=w):=HPE.out
  clear HPE
  go_upto_region 17 with(go_at_call 21;refine(HP4.out _).mono ?_;rintro e w8 ⟨rfl,hw8⟩;obtain rfl:=hw8.symm)
  obtain⟨s1,hs1⟩:∃ s1,s1=(⟨#[40]⟩:ByteArray)++((⟨#[94,40]⟩:ByteArray)++P++(⟨#[41]⟩:ByteArray))++(⟨#[41,36]⟩:ByteArray):=⟨_,rfl⟩
  obtain⟨hz,hix⟩:=ix_three hs1
  rw[←hs1]
  have hzI:(1:Int)<s1.size:=by omega
  clear hs1
  go_upto_region 20 with(fail)
  clear hix hz hzI
  obtain⟨S1,hS1⟩:∃ S1,S1=(⟨#[94,40,40]⟩:ByteArray)++P++(⟨#[41,41,36]⟩:ByteArray):=⟨_,rfl⟩
  obtain⟨S2,hS2⟩:∃ S2,S2=(⟨#[94,40,40]⟩:ByteArray)++Q++(⟨#[41,41,36]⟩:ByteArray):=⟨_,rfl⟩
  have HAL:Hid ((CpN w S1∧CpN w S2)∨(∃ T,CpN w S1∧CpY w S2 T)∨(∃ T,CpY w S1 T∧CpN w S2)∨(∃ T,Small T∧CpY w S1 T∧CpY w S2 T)):=alike_cp HS.out HTZ.out HO2.out HO3.out 3 hk (hS1.trans HE3.out.1) (hS2.trans HE3.out.2)
  rw[←hS1,←hS2]
  clear hS1 hS2 HP4
 rotate_left
 all_goals
  clear d1 d2 HPK HE0 HE1 HE2 HE3 HP HQ HL1 HL2
  rcases HAL.out with⟨h1,h2⟩|⟨T,h1,h2⟩|⟨T,h1,h2⟩|⟨T,hsm,h1,h2⟩
  ·have HC1:Hid (CpN w S1):=h1
   have HC2:Hid (CpN w S2):=h2
   clear h1 h2 HAL
   go_wp2_with (first|(have hmk:=HB8.out;go_at_call 29;refine(HC2.out _ HB8.out).mono ?_;clear hmk;rintro e w9 ⟨rfl,hb9⟩;have HB9:Hid (Below w.heap.size w w9):=HB8.out.trans (hb9.mono HB8.out.size);clear hb9)|(go_at_call 29;refine(HC1.out _ HBD.out).mono ?_;rintro e w8 ⟨rfl,hb8⟩;have HB8:Hid (Below w.heap.size w w8):=HBD.out.trans (hb8.mono HBD.out.size);clear hb8))
   go_ret
   exact⟨rfl,HB9.out⟩
  ·have HC1:Hid (CpN w S1):=h1
   have HC2:Hid (CpY w S2 T):=h2
   clear h1 h2 HAL
   go_wp2_with (first|(have hmk:=HB8.out;go_at_call 29;refine(HC2.out _ HB8.out).mono ?_;clear hmk;rintro e w9 ⟨m',c',rfl,hm9,hb9⟩;have HB9:Hid (Below w.heap.size w w9):=HB8.out.trans (hb9.mono HB8.out.size);clear hb9 hm9)|(go_at_call 29;refine(HC1.out _ HBD.out).mono ?_;rintro e w8 ⟨rfl,hb8⟩;have HB8:Hid (Below w.heap.size w w8):=HBD.out.trans (hb8.mono HBD.out.size);clear hb8))
   go_ret
   exact⟨rfl,HB9.out⟩
  ·have HC1:Hid (CpY w S1 T):=h1
   have HC2:Hid (CpN w S2):=h2
   clear h1 h2 HAL
   go_wp2_with (first|(have hmk:=HB8.out;go_at_call 29;refine(HC2.out _ HB8.out).mono ?_;clear hmk;rintro e w9 ⟨rfl,hb9⟩;have HB9:Hid (Below w.heap.size w w9):=HB8.out.trans (hb9.mono HB8.out.size);clear hb9)|(go_at_call 29;refine(HC1.out _ HBD.out).mono ?_;rintro e w8 ⟨m,c,rfl,hm8,hb8⟩;have HM8:Hid (Mch w8 m T c):=hm8;have HB8:Hid (Below w.heap.size w w8):=HBD.out.trans (hb8.mono HBD.out.size);clear hb8 hm8))
   go_ret
   exact⟨rfl,HB9.out⟩
  ·have HC1:Hid (CpY w S1 T):=h1
   have HC2:Hid (CpY w S2 T):=h2
   have HSM:Hid (Small T):=hsm
   clear h1 h2 HAL hsm
   go_upto_region 26 with(first|(have hmk:=HB8.out;go_at_call 29;refine(HC2.out _ HB8.out).mono ?_;clear hmk;rintro e w5 ⟨m',c',rfl,hm9,hb9⟩;have HM5:Hid (Mch w5 m T c∧Mch w5 m' T c'):=⟨HM8.out.below hb9,hm9⟩;have HB5:Hid (Below w.heap.size w w5):=HB8.out.trans (hb9.mono HB8.out.size);clear hb9 hm9)|(go_at_call 29;refine(HC1.out _ HBD.out).mono ?_;rintro e w8 ⟨m,c,rfl,hm8,hb8⟩;have HM8:Hid (Mch w8 m T c):=hm8;have HB8:Hid (Below w.heap.size w w8):=HBD.out.trans (hb8.mono HBD.out.size);clear hb8 hm8))
   have HST:Hid (∀ W va vn va' vn',TabIn W T va vn→TabIn W T va' vn'→Calls Tryz.prog 26 #[tv T va vn,tv T va' vn'] W fun e w'=>e=.returned (.bool true)∧Below W.heap.size W w'):=fun W va vn va' vn' h h'=>sameTable_eq W T va vn va' vn' h h' HSM.out
   go_wp2_with (first|(have hmk7:=HB7.out;go_at_call 26;refine(HST.out _ _ _ _ _ (HT7.out.1.below ((Below.refl _ _).alloc (Nat.le_refl _) _)) (HT7.out.2.below ((Below.refl _ _).alloc (Nat.le_refl _) _))).mono ?_;clear hmk7;rintro e w8 ⟨rfl,hb8⟩;have HB8:Hid (Below w.heap.size w w8):=(HB7.out.alloc HB7.out.size _).trans (hb8.mono (by have:=HB7.out.size;simp;omega));clear hb8)|(have hmk6:=HB6.out;go_at_call 16;refine(mtable_any _ m' T c' HM6.out).mono ?_;clear hmk6;rintro e w7 ⟨tC,tD,gs',rfl,htn',hb7⟩;have HT7:Hid (TabIn w7 T (.slice (some ⟨tA,0,none⟩) T.acc.length T.acc.length) (.slice (some ⟨tB,0,none⟩) T.next.length T.next.length)∧TabIn w7 T (.slice (some ⟨tC,0,none⟩) T.acc.length T.acc.length) (.slice (some ⟨tD,0,none⟩) T.next.length T.next.length)):=⟨HT6.out.below hb7,htn'.tab⟩;have HB7:Hid (Below w.heap.size w w7):=HB6.out.trans (hb7.mono HB6.out.size);obtain⟨x0,x1,x2,x3,x4,x5⟩:=box6 ((hb7.block w6.heap.size (by simp)).trans (heap_alloc_new w6 _));have hs7:w6.heap.size<w7.heap.size:=(by have:=hb7.size;simp at this;omega);clear hb7 htn')|(go_at_call 16;refine(mtable_any _ m T c HM5.out.1).mono ?_;rintro e w6 ⟨tA,tB,gs,rfl,htn,hb6⟩;have HT6:Hid (TabIn (w6.alloc (.cells #[.bool T.front,.bool T.back,.int .i64 T.start,.string (ba T.cls),.slice (some ⟨tA,0,none⟩) T.acc.length T.acc.length,.slice (some ⟨tB,0,none⟩) T.next.length T.next.length] 33)) T (.slice (some ⟨tA,0,none⟩) T.acc.length T.acc.length) (.slice (some ⟨tB,0,none⟩) T.next.length T.next.length)):=htn.tab.below ((Below.refl _ _).alloc (Nat.le_refl _) _);have HM6:Hid (Mch (w6.alloc (.cells #[.bool T.front,.bool T.back,.int .i64 T.start,.string (ba T.cls),.slice (some ⟨tA,0,none⟩) T.acc.length T.acc.length,.slice (some ⟨tB,0,none⟩) T.next.length T.next.length] 33)) m' T c'):=(HM5.out.2.below hb6).below ((Below.refl _ _).alloc (Nat.le_refl _) _);have HB6:Hid (Below w.heap.size w (w6.alloc (.cells #[.bool T.front,.bool T.back,.int .i64 T.start,.string (ba T.cls),.slice (some ⟨tA,0,none⟩) T.acc.length T.acc.length,.slice (some ⟨tB,0,none⟩) T.next.length T.next.length] 33))):=(HB5.out.trans (hb6.mono HB5.out.size)).alloc (HB5.out.trans (hb6.mono HB5.out.size)).size _;clear hb6 htn))
   go_ret
   exact⟨rfl,HB8.out⟩
open Go.ChangeShapes Go.WideShapes Go.ChangeAt Go.WideMaps Go.WideElems Go.RowKit
theorem alike_door (os:Os) (args:Array Value):laidMetH Tryz.prog Rows.alikeRow.laid ((World.doorLaid Tryz.prog 400 os).forCall (fun _ _=>0) ⟨#[],args,[]⟩).memory:=by
 rw[MakeChecks.laidMetH_plain _ _ _ (by kernel_rfl)]
 exact laidMet_of_run' 8 (by kernel_rfl) (by kernel_rfl)
theorem alike_lifted (os:Os) (started:os.Started) (H:Type) (enc:TypeId×Value→H) :
  ReturnsInHanded {} Tryz.checked os 8 .any (fun w args=>(Rows.alikeSpec.pre enc Tryz.prog Tryz.f8 [] false w args∧laidMetH Tryz.prog Rows.alikeRow.laid w)∧sizedMet enc Tryz.prog Tryz.f8 (OpenSpec.ofChange Rows.alikeSpec) false w args)
   (Rows.alikeSpec.post enc Tryz.prog Tryz.f8 false true false false):=by
 refine returnsInHanded_of_change_and (C:=Tryz.checked) (X:=fun w _=>laidMetH Tryz.prog Rows.alikeRow.laid w) (fun _ _ _ hh h=>h.of_heap hh) own5 started (by kernel_rfl) Tryz.func8
  (ChangeSpec.witness_shaped (enc:=enc) (C:=Tryz.checked) (os:=os) (X:=fun w _=>laidMetH Tryz.prog Rows.alikeRow.laid w) false (World.doorLaid Tryz.prog 400 os) #[.slice none 0 0,.slice none 0 0,.int .i64 0,.int .i64 0] 8 rfl (World.shaped_of_RefB (by kernel_rfl) (by kernel_rfl)) (by kernel_rfl) (by kernel_rfl) (by kernel_rfl) (alike_door os _)) ?_
 intro W base args ds gs before hval0 hW _ _ hL _
 have hval:∀(j:Nat) t v,Tryz.f8.params[j]?=some t→args[j]?=some v→Value.okWide Tryz.prog W .any base t v:=hval0
 have hW':=hW
 obtain⟨p,q,hA0,hV,rfl,hfz,hnd⟩:=hW
 have hA:DataW.TrodAll enc Tryz.prog W 0 (fun _=>true) true Tryz.f8.params.toList args.toList ds p:=hA0
 have hlt:=hA.lt
 rw[Tryz.params8] at hA hval
 obtain⟨v0,as1,d0,ds1,p0,q0,ha0,rfl,rfl,h0,hA1⟩:=trodAll_cons hA
 obtain⟨v1,as2,d1,ds2,p1,q1,rfl,rfl,rfl,h1,hA2⟩:=trodAll_cons hA1
 obtain⟨v2,as3,d2,ds3,p2,q2,rfl,rfl,rfl,h2,hA3⟩:=trodAll_cons hA2
 obtain⟨v3,as4,d3,ds4,p3,q3,rfl,rfl,rfl,h3,hA4⟩:=trodAll_cons hA3
 obtain⟨rfl,rfl,rfl⟩:=trodAll_nil hA4
 obtain rfl:args=#[v0,v1,v2,v3]:=by cases args;simp_all
 obtain⟨rfl,rfl⟩:=trodVars_none hV
 obtain⟨n2,rfl,rfl,rfl,w2⟩:=open_int Tryz.underlying3 (hval 2 3 v2 rfl rfl) h2
 obtain⟨n3,rfl,rfl,rfl,w3⟩:=open_int Tryz.underlying3 (hval 3 3 v3 rfl rfl) h3
 obtain⟨a0,l0,c0,rfl⟩:=Go.WideShapes.okWide_slice Tryz.underlying40 (hval 0 40 v0 rfl rfl)
 obtain⟨a1,l1,c1,rfl⟩:=Go.WideShapes.okWide_slice Tryz.underlying40 (hval 1 40 v1 rfl rfl)
 have h0':=h0
 have h1':=h1
 obtain⟨f0,k0⟩:=h0
 obtain⟨f1,k1⟩:=h1
 obtain⟨v,l,e0,hraw⟩:=open_raw k0
 obtain⟨u,m,e1,hraw2⟩:=open_raw k1
 obtain rfl:v=.slice a0 l0 c0:=by simpa [Value.cells] using e0.symm
 obtain rfl:u=.slice a1 l1 c1:=by simpa [Value.cells] using e1.symm
 obtain⟨hT,hZ⟩:=spoilt_laid hL
 clear hA0 hval0
 refine(alike_any W _ _ l m n2 n3 hT hZ hraw hraw2 (wf_rg w2) (wf_rg w3)).mono fun e W' ⟨he,bel⟩=>?_
 subst he
 exact⟨_,rfl,_,_,_,[],_,[],hW',trodAll_mk1 (shut_bool Tryz.underlying4 _),trodAll_cons_mk (Trod_stays (by kernel_rfl) (by kernel_rfl) (of_decide_eq_true (by kernel_rfl)) h0' (fun x hx=>same_at bel (hlt x (by simp[hx]))) (fun x hx=>by simpa using hlt x (by simp[hx]))) (trodAll_cons_mk (Trod_stays (by kernel_rfl) (by kernel_rfl) (of_decide_eq_true (by kernel_rfl)) h1' (fun x hx=>same_at bel (hlt x (by simp[hx]))) (fun x hx=>by simpa using hlt x (by simp[hx]))) (trodAll_cons_mk (shut_int Tryz.underlying3 w2) (trodAll_mk1 (shut_int Tryz.underlying3 w3)))),rfl,bel.frame _,fun h=>by cases h⟩
theorem alike_said:Rows.AlikeSaid:=
 OpenClaim.holds_of_wide 8 Tryz.f8 rfl rfl rfl rfl rfl rfl rfl ⟨rfl,rfl,rfl,rfl,rfl⟩ rfl rfl rfl rfl rfl (by kernel_rfl) Tryz.func8 (by kernel_rfl)
  (of_decide_eq_true (by kernel_rfl)) (by unfold Func.isWrapper;first|(rw[if_pos (by decide +kernel)];kernel_rfl)|(rw[if_neg (by decide +kernel)];exact⟨rfl,rfl⟩))
  (fun os started H enc _=>alike_lifted os started H enc)
end Go.Proofs.YtbjabpodkaokjaaGreatDoor
