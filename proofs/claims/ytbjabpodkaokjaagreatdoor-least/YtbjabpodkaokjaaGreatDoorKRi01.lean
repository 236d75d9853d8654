import Derived.Test.YtbjabpodkaokjaaGreatDoorDRi01
import Derived.Test.YtbjabpodkaokjaaGreatDoorJ35
import Derived.Test.YtbjabpodkaokjaaGreatDoorJ11
set_option linter.unusedVariables false
set_option linter.unusedSimpArgs false
set_option maxHeartbeats 4000000
set_option maxRecDepth 100000
namespace Go.Proofs.YtbjabpodkaokjaaGreatDoor
def numRow (m:Nat):List Nat→Option Nat
 |[]=>some m
 |x::l=>if m<x then none else numRow (if x=m then m+1 else m) l
def numRows:Nat→Nat→List (List Nat)→Option Nat
 |_,m,[]=>some m
 |i,m,r::l=>if i<m then(numRow m r).bind fun m'=>numRows (i+1) m' l else none
theorem numRow_met {α:Type} [DecidableEq α]:∀(xs m:List α),numRow m.length (xs.map (metL m xs).idxOf)=some (metL m xs).length
 |[],m=>by simp[numRow,metL]
 |x::xs,m=>by
  have ih:=numRow_met xs (pushM m x)
  rw[List.map_cons,idx_push,numRow,metL_cons]
  by_cases hx:x∈m
  ·have hp:pushM m x=m:=by unfold pushM;rw[if_pos hx]
   rw[hp] at ih ⊢
   have:=List.idxOf_lt_length_of_mem hx
   rw[if_neg (by omega),if_neg (by omega)]
   exact ih
  ·have e:=idx_new.2 hx
   have hl:(pushM m x).length=m.length+1:=by unfold pushM;rw[if_neg hx];simp
   rw[e,if_neg (by omega),if_pos rfl,←hl]
   exact ih
theorem numRows_append:∀(rows:List (List Nat)) (i m:Nat) (r:List Nat),numRows i m (rows++[r])=(numRows i m rows).bind fun m'=>if i+rows.length<m' then numRow m' r else none
 |[],i,m,r=>by
  simp only[List.nil_append,numRows,Option.bind_some,List.length_nil,Nat.add_zero]
  split
  ·cases numRow m r<;>rfl
  ·rfl
 |r'::rows,i,m,r=>by
  simp only[List.cons_append,numRows,List.length_cons]
  split
  ·cases numRow m r' with
   |none=>rfl
   |some m'=>
    simp only[Option.bind_some]
    rw[numRows_append rows (i+1) m' r]
    have:i+1+rows.length=i+(rows.length+1):=by omega
    rw[this]
  ·rfl
theorem stsM_num {α β:Type} [DecidableEq α] {step:α→β→α}{rs:List β}{limit:Nat}:∀ {f:Nat}{met:List α}{tk:Nat}{rows:List (List Nat)}{x:List α×List (List Nat)},rows.length=tk→numRows 0 1 rows=some met.length→stsM step rs limit f met tk rows=some x→numRows 0 1 x.2=some x.1.length
 |0,met,tk,rows,x,_,_,e=>by simp[stsM] at e
 |f+1,met,tk,rows,x,hl,h,e=>by
  simp only[stsM] at e
  split at e
  ·simp at e;subst e;exact h
  ·rename_i q hq
   split at e
   ·simp at e
   ·have htk:=(List.getElem?_eq_some_iff.1 hq).1
    refine stsM_num (by simp[hl]) ?_ e
    rw[numRows_append,h,Option.bind_some,if_pos (by omega)]
    exact numRow_met _ _
theorem leastM_num (t:Tn):numRows 0 1 (leastM t).next=some (leastM t).next.length:=by
 obtain⟨x,hx⟩:=leastB_some t (blM t)
 have hL:(leastM t).next=x.2:=by unfold leastM;rw[hx]
 unfold leastB at hx
 rw[hL,stsM_num (rows:=[]) (tk:=0) (met:=[(blM t).getD 0 0]) rfl rfl hx]
 have:=(stsM_ok (α:=UInt8) (show[_].length≤256 by simp) (show StsInv _ [_] 0 [] from⟨rfl,Nat.zero_le _,fun r hr=>absurd hr (by simp)⟩) hx).2.1
 rw[this]
open Go.RowKit
theorem numRow_drop {m n:Nat}{l:List Nat}{k:Nat} (hk:k<l.length) (h:numRow m (l.drop k)=some n):l[k]≤m∧numRow (if l[k]=m then m+1 else m) (l.drop (k+1))=some n:=by
 rw[List.drop_eq_getElem_cons hk] at h
 simp only[numRow] at h
 split at h
 ·simp at h
 ·exact⟨by omega,h⟩
theorem numRows_drop {m n i:Nat}{l:List (List Nat)} (hi:i<l.length) (h:numRows i m (l.drop i)=some n):i<m∧∃ m',numRow m l[i]=some m'∧numRows (i+1) m' (l.drop (i+1))=some n:=by
 rw[List.drop_eq_getElem_cons hi] at h
 simp only[numRows] at h
 split at h
 ·rename_i hm
  cases q:numRow m l[i] with
  |none=>rw[q] at h;simp at h
  |some m'=>rw[q] at h;exact⟨hm,m',rfl,h⟩
 ·simp at h
theorem numRow_le:∀(l:List Nat) (m n:Nat),numRow m l=some n→m≤n∧n≤m+l.length
 |[],m,n,h=>by simp[numRow] at h;omega
 |x::l,m,n,h=>by
  simp only[numRow] at h
  split at h
  ·simp at h
  ·have:=numRow_le l _ n h
   simp only[List.length_cons]
   split at this<;>omega
theorem numRows_le:∀(l:List (List Nat)) (i m n:Nat),numRows i m l=some n→m≤n
 |[],i,m,n,h=>by simp[numRows] at h;omega
 |r::l,i,m,n,h=>by
  simp only[numRows] at h
  split at h
  ·cases q:numRow m r with
   |none=>rw[q] at h;simp at h
   |some m'=>
    rw[q] at h
    have h1:=numRow_le r m m' q
    have h2:=numRows_le l (i+1) m' n h
    omega
  ·simp at h
theorem cntC_drop {m n:Nat}{l:List UInt8}{k:Nat} (hk:k<l.length) (h:cntC m (l.drop k)=some n):l[k].toNat≤m∧cntC (if l[k].toNat=m then m+1 else m) (l.drop (k+1))=some n:=by
 rw[List.drop_eq_getElem_cons hk] at h
 simp only[cntC] at h
 split at h
 ·simp at h
 ·have e:max m (l[k].toNat+1)=if l[k].toNat=m then m+1 else m:=by split<;>omega
  rw[e] at h
  exact⟨by omega,h⟩
theorem numbered_yes (w:World) (t:Tb) (N:List (List Nat)) (c:Nat) (va vn:Value) (h:TabIn w t va vn) (hok:TbOk t c) (hst:t.start=0) (hN:t.next=N.map fun r=>r.map Int.ofNat) (hnum:numRows 0 1 N=some N.length) :
  Calls Tryz.prog 23 #[tv t va vn] w fun e w'=>e=.returned (.bool true)∧Below w.heap.size w w':=by
 obtain⟨ha,hn⟩:=h
 have oc:=hok.c256
 obtain⟨o1,o2,o3,o4,o5,o6,o7⟩:=hok
 obtain⟨a,ca,rfl⟩:=ha.form
 obtain⟨us,hul,hu,hr⟩:=hn
 obtain⟨f,b,st,cls,acc,next⟩:=t
 simp only at *
 subst hst
 obtain⟨an,cn,rfl⟩:=hu.form
 obtain⟨nn,hnn⟩:∃ nn,nn=us.length:=⟨_,rfl⟩
 rw[←hnn] at hul hu ⊢
 obtain⟨na,hna⟩:∃ na,na=acc.length:=⟨_,rfl⟩
 rw[←hna] at o1 o2 o3 ⊢
 have hNl:N.length=nn:=by rw[hN,List.length_map] at hul;omega
 obtain⟨wx,hwx⟩:∃ wx,wx=w.alloc (.cells #[.bool f,.bool b,.int .i64 0,.string (ba cls),.slice a na ca,.slice an nn cn] 33):=⟨_,rfl⟩
 have HB:Hid (Below w.heap.size w wx):=by rw[hwx];exact(Below.refl _ _).alloc (Nat.le_refl _) _
 have HW:Hid (wx=w.alloc (.cells #[.bool f,.bool b,.int .i64 0,.string (ba cls),.slice a na ca,.slice an nn cn] 33)):=hwx
 have hRw:Hid (∀ i (hi:i<N.length),∃ ra rc,(∃ bn on,an=some ⟨bn,on,none⟩∧wx.cell? ⟨bn,on+i,none⟩=some (.slice ra N[i].length rc))∧N[i].length≤256∧∀ j (hj:j<N[i].length),∃ b3 o3,ra=some ⟨b3,o3,none⟩∧wx.cell? ⟨b3,o3+j,none⟩=some (.int .i64 (N[i][j]:Nat))∧N[i][j]<200):=fun i hi=>by
  have hU:=hu.below HB.out
  have hi1:i<us.length:=by omega
  have hi2:i<next.length:=by omega
  obtain⟨bn,on,cn',hvn,hcell⟩:=hU.nonnil (by omega)
  injection hvn with e1 e2 e3
  have hrk:=(hr i hi1 hi2).below HB.out
  have hrr:=o7 _ (List.getElem_mem hi2)
  have hni:next[i]=N[i].map Int.ofNat:=by simp[hN]
  rw[hni] at hrk hrr
  rw[List.length_map] at hrr
  obtain⟨ra,rc,hf⟩:=hrk.form
  rw[List.length_map] at hf
  have hc:=hcell i hi1
  simp only[id] at hc
  refine⟨ra,rc,⟨bn,on,e1,by rw[hc,hf]⟩,by omega,fun j hj=>?_⟩
  obtain⟨b3,o3,c3,hf3,hc3⟩:=hrk.nonnil (by simp;omega)
  rw[hf] at hf3
  injection hf3 with f1 _ _
  have hj':j<(N[i].map Int.ofNat).length:=by simpa using hj
  have:=hc3 j hj'
  refine⟨b3,o3,f1,by rw[this];simp[eI],?_⟩
  have h2:=hrr.2 (N[i][j]:Nat) (List.mem_map.2 ⟨_,List.getElem_mem hj,rfl⟩)
  omega
 have HC6:Hid (cls.length=256):=oc.2
 have hbz:(ba cls).size=256:=by rw[ba_size];exact oc.2
 have HCC:Hid (cntC 0 cls=some c):=by
  unfold cntR at o6
  rw[if_pos hbz] at o6
  exact o6
 have HNL:Hid (N.length=nn):=hNl
 have HNU:Hid (numRows 0 1 N=some N.length):=hnum
 have hc256:c≤256:=by omega
 have hnn2:nn≤200:=by omega
 have hblk:wx.heap[w.heap.size]?=some (.cells #[.bool f,.bool b,.int .i64 0,.string (ba cls),.slice a na ca,.slice an nn cn] 33):=by rw[hwx];exact heap_alloc_new w _
 obtain⟨p0,p1,p2,p3,p4,p5⟩:=box6 hblk
 clear hna ha hu hr hul hnn hwx p0 p1 p4 hblk o1 o2 o3 o6 o7 oc hNl hN hnum o4 o5
 go_enter Tryz.func23,Tryz.ntmps23
 go_wp2
 rw[←HW.out]
 go_loop [3,4,5] (fun m i _=>∃ k x:Nat,i=.int .i64 k∧m=.int .i64 x∧k≤nn∧x≤nn∧numRows k x (N.drop k)=some nn) (fun _ i _=>nn-(intOf i).toNat)
 case atStart=>
  have h1:=HNU.out
  have h2:=HNL.out
  have h3:=numRows_le _ _ _ _ h1
  exact⟨0,1,rfl,rfl,by omega,by omega,by rw[List.drop_zero,h1,h2]⟩
 case round=>
  obtain⟨i,x,rfl,rfl,hi,hx,hnr⟩:=hrel
  have HI:Hid (numRows i x (N.drop i)=some nn):=hnr
  clear hnr
  by_cases hilt:i<nn
  ·have hltI:(i:Int)<nn:=by omega
   have hil:i<N.length:=by have:=HNL.out;omega
   obtain⟨ra,rc,⟨bn,on,rfl,d1⟩,hrl,hcz⟩:=hRw.out i hil
   obtain⟨hix,m',hm1,hm2⟩:=numRows_drop hil HI.out
   obtain⟨r,hre⟩:∃ r,r=N[i]:=⟨_,rfl⟩
   rw[←hre] at d1 hcz hm1 hrl
   have HCZ:Hid (∀ j (hj:j<r.length),∃ b3 o3,ra=some ⟨b3,o3,none⟩∧wx.cell? ⟨b3,o3+j,none⟩=some (.int .i64 (r[j]:Nat))∧r[j]<200):=by
    subst hre;exact hcz
   have HM1:Hid (numRow x r=some m'):=hm1
   have HM2:Hid (numRows (i+1) m' (N.drop (i+1))=some nn):=hm2
   have hixI:¬(x:Int)≤i:=by omega
   have hm':m'≤nn:=numRows_le _ _ _ _ hm2
   obtain⟨l,hl⟩:∃ l,l=r.length:=⟨_,rfl⟩
   have HL:Hid (l=r.length):=hl
   rw[←hl] at d1 hrl
   clear hre hcz hm1 hm2 hl HI
   go_wp2
   go_loop [3,5] (fun m q=>∃ j y:Nat,q=.int .i64 j∧m=.int .i64 y∧j≤l∧y≤m'∧numRow y (r.drop j)=some m') (fun _ q=>l-(intOf q).toNat)
   case atStart=>exact⟨0,x,rfl,rfl,Nat.zero_le _,(numRow_le _ _ _ HM1.out).1,by rw[List.drop_zero];exact HM1.out⟩
   case round=>
    obtain⟨j,y,rfl,rfl,hj,hy,hny⟩:=hrel
    have HY:Hid (numRow y (r.drop j)=some m'):=hny
    clear hny
    by_cases hjl:j<l
    ·have hjlI:(j:Int)<l:=by omega
     have hjr:j<r.length:=by have:=HL.out;omega
     obtain⟨b3,o3,rfl,d2,hz2⟩:=HCZ.out j hjr
     obtain⟨hz1,hnext⟩:=numRow_drop hjr HY.out
     obtain⟨z,hz⟩:∃ z,z=r[j]:=⟨_,rfl⟩
     rw[←hz] at d2 hz2 hz1 hnext
     have HNX:Hid (numRow (if z=y then y+1 else y) (r.drop (j+1))=some m'):=hnext
     have hzy:¬(y:Int)<z:=by omega
     clear hz hnext
     by_cases hq:z=y
     ·subst hq
      have HNY:Hid (numRow (z+1) (r.drop (j+1))=some m'):=by have:=HNX.out;rw[if_pos rfl] at this;exact this
      go_wp2
      go_round
      case rel=>exact⟨j+1,z+1,by go_num,by go_num,by omega,(numRow_le _ _ _ HNY.out).1,HNY.out⟩
      case measure=>simp[intOf]<;>omega
     ·have HNY:Hid (numRow y (r.drop (j+1))=some m'):=by have:=HNX.out;rw[if_neg hq] at this;exact this
      have hqI:¬(z:Int)=y:=by omega
      go_wp2
      go_round
      case rel=>exact⟨j+1,y,by go_num,rfl,by omega,hy,HNY.out⟩
      case measure=>simp[intOf]<;>omega
    ·have hjlI:¬(j:Int)<l:=by omega
     have hye:y=m':=by
      have h1:=HY.out
      rw[List.drop_of_length_le (by have:=HL.out;omega)] at h1
      simp[numRow] at h1
      exact h1
     subst hye
     go_wp2
     go_round
     case rel=>exact⟨i+1,y,by go_num,rfl,by omega,hm',HM2.out⟩
     case measure=>simp[intOf]<;>omega
  ·have hiI:¬(i:Int)<nn:=by omega
   have hxe:x=nn:=by
    have h1:=HI.out
    rw[List.drop_of_length_le (by have:=HNL.out;omega)] at h1
    simp[numRows] at h1
    exact h1
   subst hxe
   clear HI HNU HNL hRw
   go_wp2
   go_loop [6,7] (fun top i=>∃ k y:Nat,i=.int .i64 k∧top=.int .i64 y∧k≤256∧y≤256∧cntC y (cls.drop k)=some c) (fun _ i=>256-(intOf i).toNat)
   case atStart=>exact⟨0,0,rfl,rfl,by omega,by omega,HCC.out⟩
   case round=>
    obtain⟨k,y,rfl,rfl,hk,hy,hcy⟩:=hrel
    have HY:Hid (cntC y (cls.drop k)=some c):=hcy
    clear hcy
    by_cases hlt:k<256
    ·have hltI2:(k:Int)<256:=by omega
     have hlt1:k<cls.length:=by have:=HC6.out;omega
     obtain⟨h1,h2⟩:=cntC_drop hlt1 HY.out
     obtain⟨bb,hb⟩:∃ b,b=cls[k]:=⟨_,rfl⟩
     have hbx:∀ h:k<(ba cls).size,((ba cls)[k]'h).toNat=bb.toNat:=fun h=>by rw[hb];rfl
     have hb8:=bb.toNat_lt
     rw[←hb] at h1 h2
     have HNX:Hid (cntC (if bb.toNat=y then y+1 else y) (cls.drop (k+1))=some c):=h2
     have hby:¬(y:Int)<bb.toNat:=by omega
     clear hb h2
     by_cases hq:bb.toNat=y
     ·have HNY:Hid (cntC (y+1) (cls.drop (k+1))=some c):=by have:=HNX.out;rw[if_pos hq] at this;exact this
      have hqI:(bb.toNat:Int)=y:=by omega
      have HQ:Hid (bb.toNat=y):=hq
      clear hq
      go_wp2
      go_round
      case rel=>exact⟨k+1,y+1,by go_num,by go_num,by omega,by have:=HQ.out;omega,HNY.out⟩
      case measure=>simp[intOf]<;>omega
     ·have HNY:Hid (cntC y (cls.drop (k+1))=some c):=by have:=HNX.out;rw[if_neg hq] at this;exact this
      have hqI:¬(bb.toNat:Int)=y:=by omega
      go_wp2
      go_round
      case rel=>exact⟨k+1,y,by go_num,rfl,by omega,hy,HNY.out⟩
      case measure=>simp[intOf]<;>omega
    ·have hkI:¬(k:Int)<256:=by omega
     go_wp2
     go_ret
     exact⟨rfl,HB.out⟩
end Go.Proofs.YtbjabpodkaokjaaGreatDoor
