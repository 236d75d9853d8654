import Derived.Test.YtbjabpodkaokjaaGreatDoorJ01
import Derived.WalkKit
import Derived.Below
import Derived.RowKit
import Derived.KernelRfl
import Derived.Test.YtbjabpodkaokjaaGreatDoorJ02
import Derived.Deep.AppendLies
import Derived.Laws.BitsLemmas
import Derived.Laws.Bits64
import Derived.Test.YtbjabpodkaokjaaGreatDoorJ03
import Derived.BigRegion
import Derived.BigQuiet
import Derived.Maps.Own
import Derived.Deep.RegionHeld3
import Derived.Deep.RegionLaw
import Derived.Deep.QuietTactic
import Derived.DeepKeys4
import Derived.OwnWalk
import Derived.Lib.LazyBuf
import Derived.Great.BuildSlice
import Derived.Test.YtbjabpodkaokjaaGreatDoorJ04
import Derived.Test.YtbjabpodkaokjaaGreatDoorJ05
import Derived.Test.YtbjabpodkaokjaaGreatDoorJ06
import Derived.Shelf.Spec.TrailingZeros
import Derived.Test.YtbjabpodkaokjaaGreatDoorJ07
import Derived.Maps.AppendAt
import Derived.Lib.AppendStr
import Derived.RangeFuncNested
import Derived.RangeFuncBound
import Derived.RangeFuncCalls
import Derived.RangeFuncLeaves
import Derived.RangeFuncFrom
import Derived.Shelf.Abstract
import Derived.Shelf.RegionOpen
import Derived.OwnWalkIn
import Derived.TacticsInMore
import Derived.LoopNIn
import Derived.LoopIn
import Derived.Lib.BufferRead
import Derived.Test.YtbjabpodkaokjaaGreatDoorJ08
import Derived.Test.YtbjabpodkaokjaaGreatDoorJ09
import Derived.Deep.CutRange
import Derived.Test.YtbjabpodkaokjaaGreatDoorJ10
import Derived.Test.YtbjabpodkaokjaaGreatDoorJ11
import Derived.Test.YtbjabpodkaokjaaGreatDoorJ12
import GoSem.Claim
import GoSem.ClaimJoined
import GoSem.ClaimMapViews
import Derived.WalkSpells
import Derived.WalkLawsBesides
import Derived.Deep.Light
import Derived.Test.YtbjabpodkaokjaaGreatDoorJ13
import Derived.Deep.RegionWith
import Derived.Test.YtbjabpodkaokjaaGreatDoorJ14
import Derived.Test.YtbjabpodkaokjaaGreatDoorJ15
import Derived.Deep.Draws
import Derived.Test.YtbjabpodkaokjaaGreatDoorJ16
import Derived.Test.YtbjabpodkaokjaaGreatDoorJ17
import Derived.Test.YtbjabpodkaokjaaGreatDoorJ18
import Derived.Test.YtbjabpodkaokjaaGreatDoorJ19
import Derived.Test.YtbjabpodkaokjaaGreatDoorJ20
import Derived.Test.YtbjabpodkaokjaaGreatDoorJ21
import Derived.Test.YtbjabpodkaokjaaGreatDoorJ22
import Derived.Test.YtbjabpodkaokjaaGreatDoorJ23
import Derived.Test.YtbjabpodkaokjaaGreatDoorJ24
import Derived.Test.YtbjabpodkaokjaaGreatDoorJ25
import Derived.Test.YtbjabpodkaokjaaGreatDoorJ26
import Derived.Test.YtbjabpodkaokjaaGreatDoorJ27
import Derived.Sort.CutIn
import Derived.Test.YtbjabpodkaokjaaGreatDoorJ28
import Derived.Great.Walk
import Derived.Test.YtbjabpodkaokjaaGreatDoorJ29
import Derived.Lib.BytesEntry
import Derived.Test.YtbjabpodkaokjaaGreatDoorJ30
import Derived.Test.YtbjabpodkaokjaaGreatDoorJ31
import Derived.Test.YtbjabpodkaokjaaGreatDoorJ32
import Derived.Test.YtbjabpodkaokjaaGreatDoorJ33
import Derived.Test.YtbjabpodkaokjaaGreatDoorJ34
import Derived.Test.YtbjabpodkaokjaaGreatDoorJ35
import Derived.Test.YtbjabpodkaokjaaGreatDoorJ36
import Derived.Test.YtbjabpodkaokjaaGreatDoorS01
import Derived.ProofKit
import Derived.LaidMore
import Derived.OpenShut
import Derived.Stop.Joined
import Derived.Deep.Strs
import Derived.Lib.LaidTab
import Derived.Test.YtbjabpodkaokjaaGreatDoorS02
import Derived.BigGuard
import Derived.Test.YtbjabpodkaokjaaGreatDoorS03
import Derived.Test.YtbjabpodkaokjaaGreatDoorS04
import Derived.Test.YtbjabpodkaokjaaGreatDoorS05
import Derived.Test.YtbjabpodkaokjaaGreatDoorS06
import Derived.Lib.ConvBytes
import Derived.Test.YtbjabpodkaokjaaGreatDoorS07
import Derived.Test.YtbjabpodkaokjaaGreatDoorS08
import Derived.Test.YtbjabpodkaokjaaGreatDoorS09
import Derived.SevenTiedAt
import Derived.ChangeSlices
import Derived.Carry
set_option linter.unusedVariables false
set_option linter.unusedSimpArgs false
set_option maxHeartbeats 4000000
set_option maxRecDepth 100000
namespace Go.Proofs.YtbjabpodkaokjaaGreatDoor
theorem rdP_pr {n:Nat} (h:n<65536) (big:Bool) (l:List UInt8):rdP big (pr big n++l)=(n,l):=by
 cases big<;>simp[rdP,pr,rdS]<;>omega
theorem rdS_bt (b:UInt8) (l:List UInt8):rdS (b::l)=(b.toNat,l):=rfl
theorem rdD_wr (big:Bool) (row:List Int):∀(n:Nat) (l:List UInt8),n≤row.length→(∀ z∈row,okZ z)→rdD big n ((row.take n).flatMap (fun z=>pr big z.toNat)++l)=(row.take n,l)
 |0,l,_,_=>by simp[rdD]
 |n+1,l,h,ho=>by
  have e:row.take (n+1)=row.take n++[row[n]]:=by rw[List.take_add_one,List.getElem?_eq_getElem (by omega)];rfl
  have hz:=ho row[n] (List.getElem_mem _)
  rw[e,List.flatMap_append,List.append_assoc]
  simp only[List.flatMap_cons,List.flatMap_nil,List.append_nil,rdD]
  rw[rdD_wr big row n _ (by omega) ho,rdP_pr (by have:=hz.1;have:=hz.2;omega)]
  have h3:((row[n].toNat:Nat):Int)=row[n]:=by have:=hz.1;omega
  simp only[h3]
def expd (rs:List (Nat×Int)):List Int:=rs.flatMap fun r=>List.replicate r.1 r.2
theorem expd_step (rs:List (Nat×Int)) (z:Int):expd (stepR rs z)=expd rs++[z]:=by
 rcases List.eq_nil_or_concat rs with rfl|⟨i,⟨c,y⟩,rfl⟩
 ·simp[stepR,expd]
 ·simp only[stepR,List.concat_eq_append,List.getLast?_append,List.getLast?_singleton,Option.some_or,List.dropLast_concat]
  split
  ·rename_i h
   subst h
   simp[expd,List.replicate_succ']
  ·simp[expd]
theorem expd_foldl (row:List Int):∀ rs,expd (row.foldl stepR rs)=expd rs++row:=by
 induction row with
 |nil=>simp
 |cons z t ih=>intro rs;rw[List.foldl_cons,ih,expd_step];simp
theorem expd_runs (row:List Int):expd (runs row)=row:=by rw[runs,expd_foldl];rfl
theorem rdR_wr (big:Bool) (classes:Nat) (rs:List (Nat×Int)) (hc:(expd rs).length≤classes) (h1:∀ r∈rs,r.1<65536∧okZ r.2):∀(n:Nat) (l:List UInt8),n≤rs.length→rdR big classes n ((rs.take n).flatMap (wrR big)++l)=(expd (rs.take n),l)
 |0,l,_=>by simp[rdR,expd]
 |n+1,l,h=>by
  have e:rs.take (n+1)=rs.take n++[rs[n]]:=by rw[List.take_add_one,List.getElem?_eq_getElem (by omega)];rfl
  have hr:=h1 rs[n] (List.getElem_mem _)
  have hz:=hr.2
  have hle:(expd (rs.take n)).length+rs[n].1≤classes:=by
   have e2:expd rs=expd (rs.take (n+1))++expd (rs.drop (n+1)):=by unfold expd;rw[←List.flatMap_append,List.take_append_drop]
   have e3:(expd (rs.take (n+1))).length=(expd (rs.take n)).length+rs[n].1:=by rw[e];unfold expd;rw[List.flatMap_append,List.length_append];simp only[List.flatMap_cons,List.flatMap_nil,List.append_nil,List.length_replicate]
   have:(expd rs).length=(expd (rs.take (n+1))).length+(expd (rs.drop (n+1))).length:=by rw[e2];simp
   omega
  rw[e,List.flatMap_append,List.append_assoc]
  simp only[List.flatMap_cons,List.flatMap_nil,List.append_nil,rdR]
  rw[rdR_wr big classes rs hc h1 n _ (by omega)]
  have hz1:=hz.1
  have hz2:=hz.2
  simp only[wrR,List.append_assoc]
  rw[rdP_pr hr.1]
  simp only
  rw[rdP_pr (by omega)]
  simp only[Prod.mk.injEq,and_true]
  rw[Nat.min_eq_left (by omega),show((rs[n].2.toNat:Nat):Int)=rs[n].2 by omega]
  unfold expd
  rw[List.flatMap_append]
  simp only[List.flatMap_cons,List.flatMap_nil,List.append_nil]
theorem rdRow_wr (kind:Nat) (big:Bool) (row:List Int) (l:List UInt8) (hl:row.length≤256) (ho:∀ z∈row,okZ z):rdRow kind big row.length (wrRow kind big row++l)=(row,l):=by
 unfold rdRow wrRow
 split
 ·unfold rdSp
  have hr:=runs_len row
  rw[List.append_assoc,rdP_pr (by omega)]
  simp only
  have h:=rdR_wr big row.length (runs row) (by rw[expd_runs];exact Nat.le_refl _) (fun r hr=>by have:=runs_mem row r hr;exact⟨by omega,ho _ this.2⟩) (runs row).length l (Nat.le_refl _)
  rw[List.take_length,expd_runs] at h
  exact h
 ·have h:=rdD_wr big row row.length l (Nat.le_refl _) ho
  rw[List.take_length] at h
  exact h
theorem rdA_wr (acc:List Bool):∀(n:Nat) (l:List UInt8),n≤acc.length→rdA n ((acc.take n).map wrA++l)=(acc.take n,l)
 |0,l,_=>by simp[rdA]
 |n+1,l,h=>by
  have e:acc.take (n+1)=acc.take n++[acc[n]]:=by rw[List.take_add_one,List.getElem?_eq_getElem (by omega)];rfl
  rw[e,List.map_append,List.append_assoc]
  simp only[List.map_cons,List.map_nil,rdA]
  rw[rdA_wr acc n _ (by omega)]
  cases h:acc[n]<;>simp[rdS,wrA,bt]
theorem rdRs_wr (kind:Nat) (big:Bool) (classes:Nat) (hc:classes≤256) (next:List (List Int)) (h1:∀ r∈next,r.length=classes∧∀ z∈r,okZ z):∀(n:Nat) (l:List UInt8),n≤next.length→rdRs kind big classes n ((next.take n).flatMap (wrRow kind big)++l)=(next.take n,l)
 |0,l,_=>by simp[rdRs]
 |n+1,l,h=>by
  have e:next.take (n+1)=next.take n++[next[n]]:=by rw[List.take_add_one,List.getElem?_eq_getElem (by omega)];rfl
  have hr:=h1 next[n] (List.getElem_mem _)
  rw[e,List.flatMap_append,List.append_assoc]
  simp only[List.flatMap_cons,List.flatMap_nil,List.append_nil,rdRs]
  rw[rdRs_wr kind big classes hc next h1 n _ (by omega)]
  have:=rdRow_wr kind big next[n] l (by omega) hr.2
  rw[hr.1] at this
  simp only[this]
structure Fits (t:Tb) (c:Nat):Prop where
 a1:1≤t.acc.length
 a2:t.acc.length≤200
 n:t.next.length=t.acc.length
 cc:c≤256
 cls:t.cls.length=256
 st:okZ t.start
 r:∀ r∈t.next,r.length=c∧∀ z∈r,okZ z
theorem rdT_wr {t:Tb}{c:Nat} (h:Fits t c) {kind:Nat} (hk:kind≤1) (big:Bool) (l:List UInt8):rdT (body t kind big++l)=some (t,kind,big):=by
 obtain⟨f,b,st,cls,acc,next⟩:=t
 obtain⟨a1,a2,n,hc,hcl,hst,hr⟩:=h
 simp only at *
 have hh:(next.headD []).length=c:=by
  cases next with
  |nil=>simp at n;omega
  |cons r t=>exact(hr r (by simp)).1
 have hst1:=hst.1
 have hst2:=hst.2
 have e:body ⟨f,b,st,cls,acc,next⟩ kind big++l=mk5++(UInt8.ofNat kind::UInt8.ofNat (bt f+2*bt b)::wrA big::(pr big acc.length++(pr big c++(pr big st.toNat++(cls++(acc.map wrA++(next.flatMap (wrRow kind big)++l))))))):=by
  simp only[body,hd,hh,List.append_assoc,List.cons_append,List.nil_append]
 rw[e]
 have hbig:((wrA big).toNat==1)=big:=by cases big<;>rfl
 have hk':(UInt8.ofNat kind).toNat=kind:=by simp;omega
 have hA:=rdA_wr acc acc.length (next.flatMap (wrRow kind big)++l) (Nat.le_refl _)
 have hN:=rdRs_wr kind big c hc next hr next.length l (Nat.le_refl _)
 rw[List.take_length] at hA hN
 rw[n] at hN
 unfold rdT
 have hd5:(mk5++(UInt8.ofNat kind::UInt8.ofNat (bt f+2*bt b)::wrA big::(pr big acc.length++(pr big c++(pr big st.toNat++(cls++(acc.map wrA++(next.flatMap (wrRow kind big)++l)))))))).drop 5=(UInt8.ofNat kind::UInt8.ofNat (bt f+2*bt b)::wrA big::(pr big acc.length++(pr big c++(pr big st.toNat++(cls++(acc.map wrA++(next.flatMap (wrRow kind big)++l))))))):=rfl
 rw[hd5]
 simp only[rdS_bt,hbig,hk']
 rw[rdP_pr (by omega)]
 simp only
 rw[rdP_pr (by omega)]
 simp only
 rw[rdP_pr (by omega)]
 simp only
 rw[if_neg (by omega)]
 have hdr:(cls++(acc.map wrA++(next.flatMap (wrRow kind big)++l))).drop 256=acc.map wrA++(next.flatMap (wrRow kind big)++l):=by
  rw[←hcl];simp
 have htk:(cls++(acc.map wrA++(next.flatMap (wrRow kind big)++l))).take 256=cls:=by
  rw[←hcl];simp
 rw[hdr,htk,hA]
 simp only
 rw[hN]
 have h1:((UInt8.ofNat (bt f+2*bt b)).toNat%2==1)=f:=by cases f<;>cases b<;>rfl
 have h2:((UInt8.ofNat (bt f+2*bt b)).toNat / 2%2==1)=b:=by cases f<;>cases b<;>rfl
 have h3:((st.toNat:Nat):Int)=st:=by omega
 simp only[h1,h2,h3]
section
variable {P:Program} (w:World)
end
theorem cStep_lt (b k c:Nat) (h:c<4294967296):cStep b k c<4294967296:=by
 unfold cStep
 split
 ·omega
 ·exact xor32 (by omega) (by omega)
theorem crcN_lt (b c:Nat) (h:c<4294967296):∀ k,crcN b k c<4294967296
 |0=>h
 |k+1=>cStep_lt _ _ _ (crcN_lt b c h k)
def loadM (P:Tb→Bool) (b:List UInt8):Option Tb:=
 match rdT b with
 |none=>none
 |some (t,k,g)=>if enc t k g=b then(if P t=true then some t else none) else none
theorem rdT_kind {b:List UInt8}{t:Tb}{k:Nat}{g:Bool} (h:rdT b=some (t,k,g)):k≤1∧k=(b.getD 5 0).toNat∧g=((b.getD 7 0).toNat==1):=by
 unfold rdT at h
 simp only at h
 split at h
 ·simp at h
 ·rename_i hn
  simp only[Option.some.injEq,Prod.mk.injEq] at h
  obtain⟨_,rfl,rfl⟩:=h
  have hS:∀ l:List UInt8,(rdS l).1=(l.getD 0 0).toNat∧(rdS l).2=l.drop 1:=fun l=>by cases l<;>simp[rdS]
  have e5:(rdS (b.drop 5)).1=(b.getD 5 0).toNat:=by rw[(hS _).1];simp[List.getD_eq_getElem?_getD,List.getElem?_drop]
  refine⟨by omega,e5,?_⟩
  congr 1
  rw[(hS _).1,(hS _).2,(hS _).2,List.drop_drop,List.drop_drop];simp[List.getD_eq_getElem?_getD,List.getElem?_drop]
theorem loadM_some {P:Tb→Bool} (hP:∀ t,P t=true→∃ c,Fits t c) {b:List UInt8}{t:Tb}:loadM P b=some t↔∃ k g,k≤1∧P t=true∧enc t k g=b:=by
 constructor
 ·intro h
  unfold loadM at h
  split at h
  ·simp at h
  ·rename_i t' k g hr
   split at h
   ·rename_i he
    split at h
    ·rename_i hp
     simp only[Option.some.injEq] at h
     subst h
     exact⟨k,g,(rdT_kind hr).1,hp,he⟩
    ·simp at h
   ·simp at h
 ·rintro⟨k,g,hk,hp,rfl⟩
  obtain⟨c,hf⟩:=hP t hp
  have:=rdT_wr hf hk g (num4 g (crc (body t k g)))
  unfold loadM
  rw[show enc t k g=body t k g++num4 g (crc (body t k g)) from rfl,this]
  simp only
  rw[if_pos (show enc t k g=body t k g++num4 g (crc (body t k g)) from rfl),if_pos hp]
open Go.RowKit
theorem Four.drewN {b off:Nat}{x w:World} (h:Four b off x w) (n:Nat):Four b off x (w.drewN n):=⟨h.os,h.tape,h.output,h.size,h.block,h.cell⟩
open Go.Maps (Keyed)
open Go.ChangeMaps (setBlock)
section
variable {P:Program}{k e t:TypeId}{w:World}{b:Nat}{vs:List Value}{x:Value}
end
open Go.RowKit
open Go.ChangeMaps (setBlock)
theorem Hi.drewN {lo:Nat}{w w':World} (h:Hi lo w w') (n:Nat):Hi lo w (w'.drewN n):=⟨h.size,h.block⟩
theorem TbOk.fits {t:Tb}{c:Nat} (h:TbOk t c):Fits t c:=by
 have h2:=h.c256
 have:=h.a2
 have:=h.s1
 have:=h.s2
 exact⟨h.a1,h.a2,h.n,h2.1,h2.2,⟨by omega,by omega⟩,fun r hr=>⟨(h.r r hr).1,fun z hz=>by have:=(h.r r hr).2 z hz;exact⟨this.1,by omega⟩⟩⟩
theorem new_yes (w:World) (t:Tb) (va vn:Value) (h:TabIn w t va vn) (hs:Small t) (hf:isTb t=true) :
  Calls Tryz.prog 42 #[tv t va vn] w fun e w'=>∃ g,e=.returned (.tuple #[.pointer (some ⟨g,0,none⟩),.bool true])∧w.heap.size≤g∧AuIn w' g t∧Below w.heap.size w w':=by
 refine(new_yesN w t va vn h hs hf).mono ?_
 rintro e w' ⟨g,h1,h2,h3,h4⟩
 exact⟨g,h1,h2,h3 _ (Hi.refl _ _),h4⟩
theorem Wst.drew {g:Nat}{x w:World} (h:Wst g x w):Wst g x w.drew:=⟨h.bl.drew,h.kp⟩
open Go.RowKit Go.Shelf
theorem tbOk_is {t:Tb}{c:Nat} (h:TbOk t c):isTb t=true:=by
 unfold isTb
 simp only[Bool.and_eq_true,decide_eq_true_eq]
 refine⟨h.a1,h.a2,h.n,?_,?_⟩
 ·simp[isSt];exact⟨h.s1,h.s2⟩
 ·rw[h.cc]
  simp only[List.all_eq_true]
  intro r hr
  simp only[rowOk,Bool.and_eq_true,beq_iff_eq,List.all_eq_true]
  exact⟨(h.r r hr).1,fun z hz=>by simpa [isSt] using(h.r r hr).2 z hz⟩
theorem TbOk.wok {t:Tb}{c:Nat} (h:TbOk t c):Wok t:=by
 have h2:=h.c256
 have f:=h.fits
 have:=h.n
 have:=h.a1
 have:=h.a2
 exact⟨h.a2,by omega,by omega,f.st,fun r hr=>⟨by have:=(h.r r hr).1;omega,(f.r r hr).2⟩,by omega⟩
theorem encode_any (w:World) (m:Nat) (t:Tb) (c:Nat) (h:Mch w m t c) (kind:Nat) (hk:kind≤1) (big:Bool) :
  Calls Tryz.prog 34 #[.pointer (some ⟨m,0,none⟩),.int .i64 kind,.bool big] w fun e w'=>e=.returned (.tuple #[.string (ba (enc t kind big)),.int .i64 0])∧Below w.heap.size w w':=by
 obtain⟨g,h1,h2,h3⟩:=h
 have hl:=table_any w g t c h2 h3
 have HW:Hid (Wok t):=h3.wok
 clear h2 h3
 rcases(show kind=0∨kind=1 by omega) with rfl|rfl
 ·go_enter Tryz.func34,Tryz.ntmps34
  go_wp2_with (first|(go_at_call 59;refine(write_any w1 t _ _ 0 big (by omega) HN.out.tab HW.out).mono ?_;rintro e w2 ⟨rfl,hb2⟩)|(go_at_call 50;refine hl.mono ?_;rintro e w1 ⟨tA,tB,gs,rfl,hn,hb⟩;have HN:Hid (TabN w.heap.size w1 t tA tB gs):=hn;clear hn))
  go_ret2
  exact⟨rfl,hb.trans (hb2.mono hb.size)⟩
 ·go_enter Tryz.func34,Tryz.ntmps34
  go_wp2_with (first|(go_at_call 59;refine(write_any w1 t _ _ 1 big (by omega) HN.out.tab HW.out).mono ?_;rintro e w2 ⟨rfl,hb2⟩)|(go_at_call 50;refine hl.mono ?_;rintro e w1 ⟨tA,tB,gs,rfl,hn,hb⟩;have HN:Hid (TabN w.heap.size w1 t tA tB gs):=hn;clear hn))
  go_ret2
  exact⟨rfl,hb.trans (hb2.mono hb.size)⟩
theorem rdT_small {b:List UInt8}{t:Tb}{k:Nat}{g:Bool} (h:rdT b=some (t,k,g)):Small t:=by
 obtain⟨kd,l6,en,l7,bg,l8,big,s,l10,c,l12,st,l14,hh⟩:=hdr_ex b
 rw[hh.rdT] at h
 split at h
 ·simp at h
 ·rename_i hc
  simp only[Option.some.injEq,Prod.mk.injEq] at h
  obtain⟨rfl,_,_⟩:=h
  refine⟨?_,?_,fun r hr=>?_,?_⟩
  ·simp only[rdA_len];unfold maxLen;omega
  ·simp only[rdRs_len];unfold maxLen;omega
  ·have:=(rdRs_ok _ _ _ _ _ r hr).1;unfold maxLen;omega
  ·simp only[List.length_take];unfold maxLen;omega
theorem read_good (w:World) (b:List UInt8) (hb:b.length≤maxLen) (t:Tb) (k:Nat) (g:Bool) (h:rdT b=some (t,k,g)) (he:enc t k g=b) :
  Calls Tryz.prog 60 #[.string (ba b)] w fun e w'=>(∃ va vn,e=.returned (.tuple #[tv t va vn,.bool true])∧TabIn w' t va vn)∧Below w.heap.size w w':=by
 refine(read_t w b hb t k g h).mono ?_
 rintro e w' ⟨⟨_,h⟩|⟨hne,_⟩,hbl⟩
 ·exact⟨h,hbl⟩
 ·exact absurd he hne
theorem load_yes (w:World) (b:List UInt8) (hb:b.length≤maxLen) (t:Tb) (k:Nat) (g:Bool) (h:rdT b=some (t,k,g)) (he:enc t k g=b) (hf:isTb t=true) :
  Calls Tryz.prog 35 #[.string (ba b)] w fun e w'=>∃ m c,e=.returned (.tuple #[.pointer (some ⟨m,0,none⟩),.int .i64 0])∧Mch w' m t c∧w.heap.size≤m∧Below w.heap.size w w':=by
 obtain⟨c0,hok⟩:=tbOk_of hf
 have HOK:Hid (TbOk t c0):=hok
 have hr:=read_good w b hb t k g h he
 have hs:=rdT_small h
 have HNW:Hid (∀ w va vn,TabIn w t va vn→Calls Tryz.prog 42 #[tv t va vn] w fun e w'=>∃ g,e=.returned (.tuple #[.pointer (some ⟨g,0,none⟩),.bool true])∧w.heap.size≤g∧AuIn w' g t∧Below w.heap.size w w'):=fun w va vn h=>new_yes w t va vn h hs hf
 clear h he hb hf hs hok
 go_enter Tryz.func35,Tryz.ntmps35
 go_wp2_with (first|(go_at_call 42;refine(HNW.out _ _ _ HT.out).mono ?_;rintro e w2 ⟨g2,rfl,hg2,hau,hb2⟩;have HA:Hid (AuIn w2 g2 t):=hau;have HB2:Hid (Below w.heap.size w w2):=(hb1.alloc hb1.size _).trans (hb2.mono (by have:=hb1.size;simp;omega));clear hau hb2 hg2)|(go_at_call 60;refine hr.mono ?_;rintro e w1 ⟨⟨va,vn,rfl,ht⟩,hb1⟩;obtain⟨a,c,a2,n2,c2,e1,e2⟩:=ht.shapes;subst e1;subst e2;have HT:Hid (TabIn (w1.alloc (.cells #[.bool t.front,.bool t.back,.int .i64 t.start,.string (ba t.cls),.slice a t.acc.length c,.slice a2 n2 c2] 33)) t (.slice a t.acc.length c) (.slice a2 n2 c2)):=ht.below ((Below.refl _ _).alloc (Nat.le_refl _) _);clear ht))
 go_ret2
 exact⟨_,c0,rfl,Mch.new HA.out HOK.out,HB2.out.size,HB2.out.alloc HB2.out.size _⟩
theorem load_some (w:World) (b:List UInt8) (hb:b.length≤maxLen) (t:Tb) (h:loadM isTb b=some t) :
  Calls Tryz.prog 35 #[.string (ba b)] w fun e w'=>∃ m c,e=.returned (.tuple #[.pointer (some ⟨m,0,none⟩),.int .i64 0])∧Mch w' m t c∧w.heap.size≤m∧Below w.heap.size w w':=by
 unfold loadM at h
 split at h
 ·simp at h
 ·rename_i t' k g hr
  split at h
  ·rename_i he
   split at h
   ·rename_i hp
    simp only[Option.some.injEq] at h
    subst h
    exact load_yes w b hb _ k g hr he hp
   ·simp at h
  ·simp at h
end Go.Proofs.YtbjabpodkaokjaaGreatDoor
namespace Go.Proofs.YtbjabpodkaokjaaGreatDoor.Sx
open Go.RowKit
theorem RdAt.drew {w:World}{b:Nat}{s:ByteArray}{k:Nat}{d e:Int} (h:RdAt w b s k d e):RdAt w.drew b s k d e:=⟨h.c0,h.c1,h.c2,h.c3,h.fz,h.lt⟩
theorem Four.drewN {b off:Nat}{x w:World} (h:Four b off x w) (n:Nat):Four b off x (w.drewN n):=⟨h.os,h.tape,h.output,h.size,h.block,h.cell⟩
open Go
theorem Grew.drew {w w1:World}{v v1:Value} (h:Grew w w1 v v1):Grew w w1.drew v v1:=⟨⟨h.g.os,h.g.tape,h.g.output,h.g.size,h.g.block⟩,h.o⟩
theorem Grew.drewN {w w1:World}{v v1:Value} (h:Grew w w1 v v1) (n:Nat):Grew w (w1.drewN n) v v1:=⟨⟨h.g.os,h.g.tape,h.g.output,h.g.size,h.g.block⟩,h.o⟩
theorem Keeps.drew {x w:World} (h:Keeps x w):Keeps x w.drew:=⟨h.size,h.block⟩
end Go.Proofs.YtbjabpodkaokjaaGreatDoor.Sx
namespace Go.Proofs.YtbjabpodkaokjaaGreatDoor
open Sx (Prt Cnt)
section
variable {α:Type} [DecidableEq α]
end
open Sx (Prt Cnt)
open Go.RowKit
section
variable {S:Nat}{wS:World}{fb n:Nat}{W W':World}{v:Value}{met:List (List UInt8)}{f:Nat→Value}
end
open Go.RowKit
section
variable {α β:Type} [DecidableEq α] [DecidableEq β]
theorem nodup_sub:∀ {E L:List β},E.Nodup→(∀ x∈E,x∈L)→E.length≤L.length
 |[],L,_,_=>by simp
 |a::E,L,hd,hs=>by
  have h1:a∈L:=hs a (by simp)
  have h2:=List.nodup_cons.1 hd
  have:=nodup_sub (L:=L.erase a) h2.2 (fun x hx=>by
   have hne:x≠a:=fun e=>h2.1 (e▸hx)
   exact(List.mem_erase_of_ne hne).2 (hs x (by simp[hx])))
  have h3:=List.length_erase_of_mem h1
  have h4:0<L.length:=List.length_pos_of_mem h1
  simp only[List.length_cons];omega
theorem card_inj {xs:List α} (f:α→β) (h:(metL [] xs).length≤(metL [] (xs.map f)).length) {a b:α} (ha:a∈xs) (hb:b∈xs) (e:f a=f b):a=b:=by
 rcases Decidable.em (a=b) with q|q
 ·exact q
 ·exfalso
  have hD:(metL [] xs).Nodup:=metL_nodup List.nodup_nil xs
  have hE:(metL [] (xs.map f)).Nodup:=metL_nodup List.nodup_nil _
  have haD:a∈metL [] xs:=mem_metL.2 (.inr ha)
  have hbD:b∈metL [] xs:=mem_metL.2 (.inr hb)
  have:=nodup_sub (L:=((metL [] xs).erase a).map f) hE (fun y hy=>by
   rcases mem_metL.1 hy with q2|q2
   ·simp at q2
   ·obtain⟨x,hx,rfl⟩:=List.mem_map.1 q2
    by_cases hxa:x=a
    ·subst hxa
     rw[e]
     exact List.mem_map.2 ⟨b,(List.mem_erase_of_ne (Ne.symm q)).2 hbD,rfl⟩
    ·exact List.mem_map.2 ⟨x,(List.mem_erase_of_ne hxa).2 (mem_metL.2 (.inr hx)),rfl⟩)
  rw[List.length_map,List.length_erase_of_mem haD] at this
  have h4:0<(metL [] xs).length:=List.length_pos_of_mem haD
  omega
theorem ixL_inj {l:List α}{a b:α} (ha:a∈l) (hb:b∈l) (e:ixL l a=ixL l b):a=b:=by
 have h1:=ixL_lt ha
 have h2:=ixL_lt hb
 unfold ixL at h1 h2 e
 rw[←List.getElem_idxOf h1,←List.getElem_idxOf h2]
 simp only[e]
theorem pushM_map {m:List α}{x:α} (f:α→β) (hi:∀ a∈m,f a=f x→a=x):(pushM m x).map f=pushM (m.map f) (f x):=by
 unfold pushM
 by_cases h:x∈m
 ·rw[if_pos h,if_pos (List.mem_map.2 ⟨x,h,rfl⟩)]
 ·rw[if_neg h,if_neg (fun q=>by obtain⟨a,ha,e⟩:=List.mem_map.1 q;exact h (hi a ha e▸ha))]
  simp
theorem metL_map (f:α→β):∀ {xs m:List α},(∀ a∈m++xs,∀ b∈m++xs,f a=f b→a=b)→metL (m.map f) (xs.map f)=(metL m xs).map f
 |[],m,_=>rfl
 |x::xs,m,h=>by
  rw[List.map_cons,metL_cons,metL_cons,←pushM_map f (fun a ha e=>h a (by simp[ha]) x (by simp) e)]
  refine metL_map f (fun a ha b hb e=>h a ?_ b ?_ e)
  ·rcases List.mem_append.1 ha with q|q
   ·rcases mem_pushM.1 q with q|rfl
    ·simp[q]
    ·simp
   ·simp[q]
  ·rcases List.mem_append.1 hb with q|q
   ·rcases mem_pushM.1 q with q|rfl
    ·simp[q]
    ·simp
   ·simp[q]
end
def Stab (next:List (List Nat)) (bl:List UInt8):Prop:=∀ i j (hi:i<next.length) (hj:j<next.length),bl.getD i 0=bl.getD j 0→lookM bl i next[i]=lookM bl j next[j]
theorem looksM_len (bl:List UInt8) (next:List (List Nat)):(looksM bl next).length=next.length:=by simp[looksM]
theorem looksM_at {bl:List UInt8}{next:List (List Nat)}{i:Nat} (h:i<next.length):(looksM bl next)[i]'(by rw[looksM_len];exact h)=lookM bl i next[i]:=by simp[looksM]
theorem looks_head {bl:List UInt8}{next:List (List Nat)} (h:bl.length=next.length):(looksM bl next).map (fun l=>l.getD 0 0)=bl:=by
 refine List.ext_getElem (by rw[List.length_map,looksM_len,h]) fun i h1 h2=>?_
 have hi:i<next.length:=by simpa [looksM_len] using h1
 rw[List.getElem_map,looksM_at hi]
 simp[lookM,List.getD_eq_getElem?_getD,List.getElem?_eq_getElem h2]
def byLook (bl:List UInt8) (next:List (List Nat)):List UInt8:=(looksM bl next).map fun l=>UInt8.ofNat (ixL (metL [] (looksM bl next)) l)
theorem byLook_len (bl:List UInt8) (next:List (List Nat)):(byLook bl next).length=next.length:=by simp[byLook,looksM_len]
theorem ofNat_inj {a b:Nat} (ha:a<256) (hb:b<256) (e:UInt8.ofNat a=UInt8.ofNat b):a=b:=by
 have:=congrArg UInt8.toNat e
 simpa [UInt8.toNat_ofNat',Nat.mod_eq_of_lt ha,Nat.mod_eq_of_lt hb] using this
theorem byLook_inj {bl:List UInt8}{next:List (List Nat)} (hn:next.length≤200) {a b:List UInt8} (ha:a∈looksM bl next) (hb:b∈looksM bl next) (e:UInt8.ofNat (ixL (metL [] (looksM bl next)) a)=UInt8.ofNat (ixL (metL [] (looksM bl next)) b)):a=b:=by
 have hl:=metL_len [] (looksM bl next)
 rw[looksM_len] at hl
 simp at hl
 have h1:ixL (metL [] (looksM bl next)) a<_:=ixL_lt (mem_metL.2 (.inr ha))
 have h2:ixL (metL [] (looksM bl next)) b<_:=ixL_lt (mem_metL.2 (.inr hb))
 have h3:=ofNat_inj (by omega) (by omega) e
 exact ixL_inj (mem_metL.2 (.inr ha)) (mem_metL.2 (.inr hb)) h3
theorem byLook_at {bl:List UInt8}{next:List (List Nat)}{i:Nat} (h:i<next.length):(byLook bl next).getD i 0=UInt8.ofNat (ixL (metL [] (looksM bl next)) (lookM bl i next[i])):=by
 have h1:i<(byLook bl next).length:=by rw[byLook_len];exact h
 rw[List.getD_eq_getElem?_getD,List.getElem?_eq_getElem h1,Option.getD_some]
 simp only[byLook,List.getElem_map]
 rw[looksM_at h]
theorem byLook_eq {bl:List UInt8}{next:List (List Nat)} (hn:next.length≤200) {i j:Nat} (hi:i<next.length) (hj:j<next.length):(byLook bl next).getD i 0=(byLook bl next).getD j 0↔lookM bl i next[i]=lookM bl j next[j]:=by
 rw[byLook_at hi,byLook_at hj]
 constructor
 ·exact byLook_inj hn (by rw[←looksM_at hi];exact List.getElem_mem _) (by rw[←looksM_at hj];exact List.getElem_mem _)
 ·intro e;rw[e]
theorem splitM_succ (next:List (List Nat)) (f:Nat) (bl:List UInt8) (many:Nat):splitM next (f+1) bl many=if many<(metL [] (looksM bl next)).length then splitM next f (byLook bl next) (metL [] (looksM bl next)).length else bl:=rfl
theorem splitM_stab (next:List (List Nat)) (hn:next.length≤200):∀(f:Nat) (bl:List UInt8) (many:Nat),bl.length=next.length→many≤(metL [] bl).length→200<f+many→Stab next (splitM next f bl many)
 |0,bl,many,hl,hm,hf=>by
  have:=metL_len [] bl
  simp at this
  omega
 |f+1,bl,many,hl,hm,hf=>by
  rw[splitM_succ]
  split
  ·rename_i hlt
   refine splitM_stab next hn f _ _ (byLook_len _ _) ?_ (by omega)
   have:=metL_map (fun l=>UInt8.ofNat (ixL (metL [] (looksM bl next)) l)) (xs:=looksM bl next) (m:=[]) (fun a ha b hb e=>byLook_inj hn (by simpa using ha) (by simpa using hb) e)
   simp only[List.map_nil] at this
   unfold byLook
   rw[this,List.length_map]
   exact Nat.le_refl _
  ·rename_i hge
   intro i j hi hj e
   refine card_inj (fun l:List UInt8=>l.getD 0 0) (xs:=looksM bl next) ?_ (by rw[←looksM_at hi];exact List.getElem_mem _) (by rw[←looksM_at hj];exact List.getElem_mem _) (by simpa [lookM] using e)
   rw[looks_head hl];omega
structure Bis (next:List (List Nat)) (R:Nat→Nat→Prop):Prop where
 r:∀ i j,R i j→i<next.length∧j<next.length
 s:∀ i j (hi:i<next.length) (hj:j<next.length),R i j→next[i].length=next[j].length∧∀ c (h1:c<next[i].length) (h2:c<next[j].length),R (next[i][c]) (next[j][c])
theorem look_bis {next:List (List Nat)}{R:Nat→Nat→Prop} (h:Bis next R) {bl:List UInt8} (hb:∀ i j,R i j→bl.getD i 0=bl.getD j 0) {i j:Nat} (hi:i<next.length) (hj:j<next.length) (e:R i j):lookM bl i next[i]=lookM bl j next[j]:=by
 obtain⟨h1,h2⟩:=h.s i j hi hj e
 unfold lookM
 rw[hb i j e]
 congr 1
 refine List.ext_getElem (by simp[h1]) fun c q1 q2=>?_
 simp only[List.getElem_map]
 exact hb _ _ (h2 c (by simpa using q1) (by simpa using q2))
theorem splitM_bis {next:List (List Nat)} (hn:next.length≤200) {R:Nat→Nat→Prop} (h:Bis next R):∀(f:Nat) (bl:List UInt8) (many:Nat),(∀ i j,R i j→bl.getD i 0=bl.getD j 0)→∀ i j,R i j→(splitM next f bl many).getD i 0=(splitM next f bl many).getD j 0
 |0,bl,many,hb=>hb
 |f+1,bl,many,hb=>by
  rw[splitM_succ]
  split
  ·exact splitM_bis hn h f _ _ (fun i j e=>by
    obtain⟨hi,hj⟩:=h.r i j e
    exact(byLook_eq hn hi hj).2 (look_bis h hb hi hj e))
  ·exact hb
theorem splitM_ref {next:List (List Nat)} (hn:next.length≤200) {i j:Nat} (hi:i<next.length) (hj:j<next.length):∀(f:Nat) (bl:List UInt8) (many:Nat),(splitM next f bl many).getD i 0=(splitM next f bl many).getD j 0→bl.getD i 0=bl.getD j 0
 |0,bl,many,e=>e
 |f+1,bl,many,e=>by
  rw[splitM_succ] at e
  split at e
  ·have:=(byLook_eq hn hi hj).1 (splitM_ref hn hi hj f _ _ e)
   unfold lookM at this
   injection this
  ·exact e
theorem TnOk.row {n k:Nat}{t:Tn} (h:TnOk n k t) {i:Nat} (hi:i<n):(t.next.getD i []).length=k:=by
 rw[getD_at (by rw[h.nl];exact hi)]
 exact(h.r _ (List.getElem_mem _)).1
theorem TnOk.nx_lt {n k:Nat}{t:Tn} (h:TnOk n k t) {i c:Nat} (hi:i<n) (hc:c<k):nx t i c<n:=by
 have h1:i<t.next.length:=by rw[h.nl];exact hi
 have h2:=h.r _ (List.getElem_mem h1)
 unfold nx
 rw[getD_at h1,getD_at (by rw[h2.1];exact hc)]
 exact h2.2 _ (List.getElem_mem _)
theorem blM_len {n k:Nat}{t:Tn} (h:TnOk n k t):(blM t).length=n:=(splitM_len _ _ _ _ (by simp[bkOf,h.al,h.nl])).trans h.nl
theorem bkOf_at (acc:List Bool) {i:Nat} (h:i<acc.length):(bkOf acc).getD i 0=if acc.getD i false then 1 else 0:=by
 rw[getD_at (by simp[bkOf,h]),getD_at h];simp[bkOf]
theorem bl_stab {n k:Nat}{t:Tn} (h:TnOk n k t) (hn:n≤200) {i j:Nat} (hi:i<n) (hj:j<n) (e:(blM t).getD i 0=(blM t).getD j 0):ac t i=ac t j∧∀ c,c<k→(blM t).getD (nx t i c) 0=(blM t).getD (nx t j c) 0:=by
 have hi':i<t.next.length:=by rw[h.nl];exact hi
 have hj':j<t.next.length:=by rw[h.nl];exact hj
 constructor
 ·have:=splitM_ref (by rw[h.nl];exact hn) hi' hj' 202 (bkOf t.acc) 0 e
  rw[bkOf_at _ (by rw[h.al];exact hi),bkOf_at _ (by rw[h.al];exact hj)] at this
  unfold ac
  generalize t.acc.getD i false=a at this ⊢
  generalize t.acc.getD j false=b at this ⊢
  cases a<;>cases b<;>simp at this ⊢
 ·intro c hc
  have hs:=splitM_stab t.next (by rw[h.nl];exact hn) 202 (bkOf t.acc) 0 (by simp[bkOf,h.al,h.nl]) (Nat.zero_le _) (by omega) i j hi' hj' e
  unfold lookM at hs
  injection hs with _ hs
  have r1:=(h.r _ (List.getElem_mem hi')).1
  have r2:=(h.r _ (List.getElem_mem hj')).1
  have h3:=congrArg (fun l=>l[c]?) hs
  simp only[List.getElem?_map] at h3
  rw[List.getElem?_eq_getElem (by rw[r1];exact hc),List.getElem?_eq_getElem (by rw[r2];exact hc)] at h3
  simp only[Option.map_some,Option.some.injEq] at h3
  unfold nx
  rw[getD_at hi',getD_at hj',getD_at (l:=t.next[i]) (by rw[r1];exact hc),getD_at (l:=t.next[j]) (by rw[r2];exact hc)]
  exact h3
def BisT (n k:Nat) (t:Tn) (R:Nat→Nat→Prop):Prop:=∀ i j,R i j→i<n∧j<n∧ac t i=ac t j∧∀ c,c<k→R (nx t i c) (nx t j c)
theorem bl_bis {n k:Nat}{t:Tn} (h:TnOk n k t) (hn:n≤200) {R:Nat→Nat→Prop} (hR:BisT n k t R) {i j:Nat} (e:R i j):(blM t).getD i 0=(blM t).getD j 0:=by
 refine splitM_bis (by rw[h.nl];exact hn) ⟨fun i j e=>?_,fun i j hi hj e=>?_⟩ 202 (bkOf t.acc) 0 (fun i j e=>?_) i j e
 ·rw[h.nl];exact⟨(hR i j e).1,(hR i j e).2.1⟩
 ·have r1:=(h.r _ (List.getElem_mem hi)).1
  have r2:=(h.r _ (List.getElem_mem hj)).1
  refine⟨r1.trans r2.symm,fun c h1 h2=>?_⟩
  have:=(hR i j e).2.2.2 c (by omega)
  unfold nx at this
  rwa [getD_at hi,getD_at hj,getD_at h1,getD_at h2] at this
 ·obtain⟨h1,h2,h3,-⟩:=hR i j e
  rw[bkOf_at _ (by rw[h.al];exact h1),bkOf_at _ (by rw[h.al];exact h2)]
  unfold ac at h3
  rw[h3]
theorem colM_at {n k:Nat}{t:Tn} (h:TnOk n k t) (bl:List UInt8) {c d:Nat}:colM bl t.next c=colM bl t.next d↔∀ q,q<n→bl.getD (nx t q c) 0=bl.getD (nx t q d) 0:=by
 constructor
 ·intro e q hq
  have hq':q<t.next.length:=by rw[h.nl];exact hq
  have h3:=congrArg (fun l=>l[q]?) e
  simp only[colM,List.getElem?_map,List.getElem?_eq_getElem hq',Option.map_some,Option.some.injEq] at h3
  unfold nx
  rw[getD_at hq']
  exact h3
 ·intro e
  unfold colM
  refine List.map_congr_left (fun row hr=>?_)
  obtain⟨q,hq,rfl⟩:=List.mem_iff_getElem.1 hr
  have:=e q (by rw[←h.nl];exact hq)
  unfold nx at this
  rwa [getD_at hq] at this
structure LsT (n k:Nat) (t:Tn) (n' k':Nat) (L:Tn):Prop where
 nn:n'≤n
 ok:TnOk n' k' L
 st:∀ R,BisT n' k' L R→∀ a b,R a b→a=b
 cl:∀ c d,c<k'→d<k'→c≠d→∃ i,i<n'∧nx L i c≠nx L i d
theorem leastM_lst {n k:Nat}{t:Tn} (h:TnFull n k t) (hn:n≤200):∃ n' k',LsT n k t n' k' (leastM t):=by
 obtain⟨n',k',hn',hok'⟩:=leastM_ok h.ok
 have hok:=h.ok
 have hbl:=blM_len hok
 have h1:=hok.n1
 obtain⟨x,hx⟩:=leastB_some t (blM t)
 have hL:leastM t=⟨t.front,t.back,(colsM t (blM t)).map (ixL (metL [] (colsM t (blM t)))),x.1.map fun b=>t.acc.getD ((blM t).idxOf b) false,x.2⟩:=by unfold leastM;rw[hx]
 have hst:∀ {i j},i<n→j<n→(blM t).getD i 0=(blM t).getD j 0→ac t i=ac t j∧∀ c,c<k→(blM t).getD (nx t i c) 0=(blM t).getD (nx t j c) 0:=fun hi hj e=>bl_stab hok hn hi hj e
 have hbis:∀ R,BisT n k t R→∀ i j,R i j→(blM t).getD i 0=(blM t).getD j 0:=fun R hR i j e=>bl_bis hok hn hR e
 obtain⟨bl,hb⟩:∃ bl,bl=blM t:=⟨_,rfl⟩
 rw[←hb] at hbl hx hL hst hbis
 obtain⟨cols,hcs⟩:∃ cols,cols=colsM t bl:=⟨_,rfl⟩
 obtain⟨olds,hol⟩:∃ olds,olds=oldsM t.cls cols:=⟨_,rfl⟩
 unfold leastB at hx
 rw[←hcs,←hol] at hx
 rw[←hcs] at hL
 have hcl:cols.length=t.cls.length:=by rw[hcs];simp[colsM]
 have hoc:olds.length=(metL [] cols).length:=by rw[hol];simp[oldsM]
 have hcat:∀ i (hi:i<t.cls.length),cols[i]'(by rw[hcl];exact hi)=colM bl t.next t.cls[i]:=fun i hi=>by simp only[hcs,colsM,List.getElem_map]
 have hO1:∀ c' (hc:c'<olds.length),olds[c']<k∧colM bl t.next olds[c']=(metL [] cols)[c']'(by rw[←hoc];exact hc):=fun c' hc=>by
  have hm:(metL [] cols)[c']'(by rw[←hoc];exact hc)∈cols:=by
   rcases mem_metL.1 (List.getElem_mem (l:=metL [] cols) (n:=c') (by rw[←hoc];exact hc)) with q|q
   ·simp at q
   ·exact q
  have hi:=ixL_lt hm
  have hi':ixL cols ((metL [] cols)[c']'(by rw[←hoc];exact hc))<t.cls.length:=by rw[←hcl];exact hi
  have e:olds[c']=t.cls[ixL cols ((metL [] cols)[c']'(by rw[←hoc];exact hc))]:=by
   simp only[hol,oldsM,List.getElem_map]
   exact getD_at hi' 0
  rw[e]
  exact⟨hok.ck _ (List.getElem_mem _),by rw[←hcat _ hi',ixL_get hm]⟩
 have hO2:∀ c,c<k→∃ c',∃ hc:c'<olds.length,∀ q,q<n→bl.getD (nx t q olds[c']) 0=bl.getD (nx t q c) 0:=fun c hc=>by
  obtain⟨i,hi,e⟩:=List.mem_iff_getElem.1 (h.su c hc)
  have hm:colM bl t.next c∈metL [] cols:=mem_metL.2 (.inr (by rw[←e,←hcat i hi];exact List.getElem_mem _))
  have hlt:=ixL_lt hm
  refine⟨ixL (metL [] cols) (colM bl t.next c),by rw[hoc];exact hlt,?_⟩
  refine(colM_at hok bl).1 ?_
  rw[(hO1 _ _).2,ixL_get hm]
 obtain⟨hr,hp⟩:=stsM_told (show RwInv _ _ [_] 0 [] from⟨rfl,Nat.zero_le _,fun i q hi=>absurd hi (by omega)⟩) hx
 have hnd:=stsM_nodup (show[_].Nodup by simp) hx
 have hrep:∀ j,j<n→bl.idxOf (bl.getD j 0)<n∧bl.getD (bl.idxOf (bl.getD j 0)) 0=bl.getD j 0:=fun j hj=>by
  have hm:bl.getD j 0∈bl:=by rw[getD_at (by rw[hbl];exact hj)];exact List.getElem_mem _
  have hi:ixL bl (bl.getD j 0)<bl.length:=ixL_lt hm
  refine⟨by rw[←hbl];exact hi,?_⟩
  have:=ixL_get hm
  rw[getD_at (i:=bl.idxOf (bl.getD j 0)) hi]
  exact this
 have hlead:∀ j r,j<n→r<k→leadM t bl (bl.getD j 0) r=bl.getD (nx t j r) 0:=fun j r hj hrk=>by
  obtain⟨q1,q2⟩:=hrep j hj
  exact(hst q1 hj q2).2 r hrk
 have hall:∀ j,j<n→bl.getD j 0∈x.1:=by
  intro j
  induction j using Nat.strongRecOn with
  |_ j ih=>
   intro hj
   rcases Nat.eq_zero_or_pos j with rfl|h0
   ·exact hp.subset (by simp)
   ·obtain⟨i,c,k1,k2,k3⟩:=h.rc j h0 hj
    have hi:=ih i k1 (by omega)
    obtain⟨c',hc',e⟩:=hO2 c k2
    obtain⟨a,ha,ea⟩:=List.mem_iff_getElem.1 hi
    have:=(hr.r a _ ha (List.getElem?_eq_getElem ha)).2 olds[c'] (List.getElem_mem _)
    rw[ea,hlead i _ (by omega) (hO1 c' hc').1,e i (by omega),k3] at this
    exact this
 have hlen1:n'=x.1.length:=by have:=hok'.al;rw[hL] at this;simpa using this.symm
 have hxl:x.2.length=x.1.length:=hr.l
 have hlen2:k'=olds.length:=by
  have h0:0<x.1.length:=by have:=hok'.n1;omega
  have e:=(hr.r 0 _ h0 (List.getElem?_eq_getElem h0)).1
  have:=hok'.row (i:=0) (by have:=hok'.n1;omega)
  rw[hL] at this
  simp only[List.getD_eq_getElem?_getD,e,Option.getD_some,List.length_map] at this
  exact this.symm
 have hhom:∀ j c',j<n→(hc:c'<olds.length)→nx (leastM t) (ixL x.1 (bl.getD j 0)) c'=ixL x.1 (bl.getD (nx t j olds[c']) 0):=fun j c' hj hc=>by
  have hm:=hall j hj
  have hi:=ixL_lt hm
  have e:=(hr.r _ _ hi (by rw[List.getElem?_eq_getElem hi,ixL_get hm])).1
  have e':x.2.getD (ixL x.1 (bl.getD j 0)) []=olds.map (fun r=>ixL x.1 (leadM t bl (bl.getD j 0) r)):=by rw[List.getD_eq_getElem?_getD,e,Option.getD_some]
  rw[hL,←hlead j _ hj (hO1 c' hc).1]
  show(x.2.getD (ixL x.1 (bl.getD j 0)) []).getD c' 0=_
  rw[e',getD_at (by simpa using hc)]
  simp
 have hacc:∀ j,j<n→ac (leastM t) (ixL x.1 (bl.getD j 0))=ac t j:=fun j hj=>by
  have hm:=hall j hj
  have hi:=ixL_lt hm
  obtain⟨q1,q2⟩:=hrep j hj
  rw[←(hst q1 hj q2).1,hL]
  unfold ac
  rw[getD_at (by simpa using hi)]
  simp only[List.getElem_map,ixL_get hm]
 have hsur:∀ a,a<n'→∃ j,j<n∧ixL x.1 (bl.getD j 0)=a:=fun a ha=>by
  have ha':a<x.1.length:=by omega
  have hP:∀ q∈x.1,∃ j,j<n∧bl.getD j 0=q:=stsM_all (fun q=>∃ j,j<n∧bl.getD j 0=q) (fun q r hq hr=>by
   obtain⟨j,hj,rfl⟩:=hq
   obtain⟨c,hc,rfl⟩:=List.mem_iff_getElem.1 hr
   have hk:=(hO1 c hc).1
   exact⟨nx t j olds[c],hok.nx_lt hj hk,(hlead j _ hj hk).symm⟩) (fun q hq=>by simp at hq;exact⟨0,by omega,by rw[hq];simp⟩) hx
  obtain⟨j,hj,e⟩:=hP _ (List.getElem_mem ha')
  exact⟨j,hj,by rw[e];exact ixL_at hnd ha'⟩
 refine⟨n',k',hn',hok',fun R hR a b hab=>?_,fun c d hc hd hcd=>?_⟩
 ·obtain⟨ha,hb',-⟩:=hR a b hab
  obtain⟨i,hi,rfl⟩:=hsur a ha
  obtain⟨j,hj,rfl⟩:=hsur b hb'
  have:bl.getD i 0=bl.getD j 0:=by
   refine hbis (fun i j=>i<n∧j<n∧R (ixL x.1 (bl.getD i 0)) (ixL x.1 (bl.getD j 0))) ?_ i j ⟨hi,hj,hab⟩
   rintro i j ⟨hi,hj,hij⟩
   obtain⟨-,-,e1,e2⟩:=hR _ _ hij
   rw[hacc i hi,hacc j hj] at e1
   refine⟨hi,hj,e1,fun c hc=>⟨hok.nx_lt hi hc,hok.nx_lt hj hc,?_⟩⟩
   obtain⟨c',hc',e⟩:=hO2 c hc
   have:=e2 c' (by rw[hlen2];exact hc')
   rwa [hhom i c' hi hc',hhom j c' hj hc',e i hi,e j hj] at this
  rw[this]
 ·have hc':c<olds.length:=by omega
  have hd':d<olds.length:=by omega
  refine Classical.byContradiction fun hne=>hcd ?_
  have hall2:∀ i,i<n'→nx (leastM t) i c=nx (leastM t) i d:=fun i hi=>Classical.byContradiction fun q=>hne ⟨i,hi,q⟩
  have:colM bl t.next olds[c]=colM bl t.next olds[d]:=(colM_at hok bl).2 (fun q hq=>by
   have e:=hall2 (ixL x.1 (bl.getD q 0)) (by rw[hlen1];exact ixL_lt (hall q hq))
   rw[hhom q c hq hc',hhom q d hq hd'] at e
   exact ixL_inj (hall _ (hok.nx_lt hq (hO1 c hc').1)) (hall _ (hok.nx_lt hq (hO1 d hd').1)) e)
  rw[(hO1 c hc').2,(hO1 d hd').2] at this
  exact(List.getElem_inj (metL_nodup List.nodup_nil cols)).1 this
open Sx (Prt Cnt)
theorem TnOk.ck' {n k:Nat}{t:Tn} (h:TnOk n k t) (b:UInt8):t.cls.getD b.toNat 0<k:=by
 have hb:b.toNat<t.cls.length:=by rw[h.cl];exact b.toNat_lt
 rw[getD_at hb]
 exact h.ck _ (List.getElem_mem hb)
theorem rnT_lt {n k:Nat}{t:Tn} (h:TnOk n k t):∀(u:List UInt8) {s:Nat},s<n→rnT t s u<n
 |[],s,hs=>hs
 |b::u,s,hs=>by
  show rnT t (nx t s (t.cls.getD b.toNat 0)) u<n
  exact rnT_lt h u (h.nx_lt hs (h.ck' b))
theorem lead_at {n k:Nat}{t:Tn} (h:TnOk n k t) (hn:n≤200) {s i j:Nat} (hs:s<n) (hi:i<256) (hj:j<256) (e:colM (blM t) t.next (t.cls.getD i 0)=colM (blM t) t.next (t.cls.getD j 0)):leadM t (blM t) ((blM t).getD s 0) (t.cls.getD i 0)=(blM t).getD (nx t s (t.cls.getD j 0)) 0:=by
 have hl:=blM_len h
 have hs':s<(blM t).length:=by omega
 have hm:(blM t).getD s 0∈blM t:=by rw[getD_at hs'];exact List.getElem_mem hs'
 have h1:=List.idxOf_lt_length_of_mem hm
 have h2:(blM t).getD ((blM t).idxOf ((blM t).getD s 0)) 0=(blM t).getD s 0:=by
  conv=>lhs;rw[getD_at h1,List.getElem_idxOf h1]
 have hc:t.cls.getD i 0<k:=by
  have:i<t.cls.length:=by rw[h.cl];exact hi
  rw[getD_at this];exact h.ck _ (List.getElem_mem this)
 have h3:=(bl_stab h hn (by omega) hs h2).2 _ hc
 show(blM t).getD (nx t ((blM t).idxOf ((blM t).getD s 0)) (t.cls.getD i 0)) 0=_
 rw[h3]
 exact(colM_at h (blM t)).1 e s hs
theorem acc_at {n k:Nat}{t:Tn} (h:TnOk n k t) (hn:n≤200) {s:Nat} (hs:s<n):t.acc.getD ((blM t).idxOf ((blM t).getD s 0)) false=ac t s:=by
 have hl:=blM_len h
 have hs':s<(blM t).length:=by omega
 have hm:(blM t).getD s 0∈blM t:=by rw[getD_at hs'];exact List.getElem_mem hs'
 have h1:=List.idxOf_lt_length_of_mem hm
 have h2:(blM t).getD ((blM t).idxOf ((blM t).getD s 0)) 0=(blM t).getD s 0:=by
  conv=>lhs;rw[getD_at h1,List.getElem_idxOf h1]
 exact(bl_stab h hn (by omega) hs h2).1
theorem leastM_parts (t:Tn):∃ x,leastB t (blM t)=some x∧leastM t=⟨t.front,t.back,(colsM t (blM t)).map (ixL (metL [] (colsM t (blM t)))),x.1.map fun b=>t.acc.getD ((blM t).idxOf b) false,x.2⟩:=by
 obtain⟨x,hx⟩:=leastB_some t (blM t)
 exact⟨x,hx,by unfold leastM;rw[hx]⟩
theorem cols_at {n k:Nat}{t:Tn} (h:TnOk n k t) {i:Nat} (hi:i<256):(colsM t (blM t))[i]?=some (colM (blM t) t.next (t.cls.getD i 0)):=by
 have:i<t.cls.length:=by rw[h.cl];exact hi
 unfold colsM
 rw[List.getElem?_map,List.getElem?_eq_getElem this,getD_at this];rfl
theorem leastM_run {n k:Nat}{t:Tn} (h:TnOk n k t) (hn:n≤200) (u:List UInt8):ac (leastM t) (rnT (leastM t) 0 u)=ac t (rnT t 0 u):=by
 obtain⟨x,hx,hL⟩:=leastM_parts t
 unfold leastB at hx
 have hn1:=h.n1
 obtain⟨hr,hp⟩:=stsM_told (show RwInv _ _ [_] 0 [] from⟨rfl,Nat.zero_le _,fun i q hi=>absurd hi (by omega)⟩) hx
 obtain⟨cols,hcs⟩:∃ cols,cols=colsM t (blM t):=⟨_,rfl⟩
 have hcol:∀ i,i<256→cols[i]?=some (colM (blM t) t.next (t.cls.getD i 0)):=fun i hi=>by rw[hcs];exact cols_at h hi
 have hcl:cols.length=256:=by rw[hcs];simp[colsM,h.cl]
 rw[←hcs] at hL hr
 have inv:∀ u:List UInt8,x.1[rnT (leastM t) 0 u]?=some ((blM t).getD (rnT t 0 u) 0):=by
  refine snoc_ind ?_ ?_
  ·show x.1[0]?=_
   rw[pre_get hp (by simp)];rfl
  ·intro u b ih
   have hb:=b.toNat_lt
   have k1:=hcol b.toNat hb
   obtain⟨col,hc⟩:∃ col,col=colM (blM t) t.next (t.cls.getD b.toNat 0):=⟨_,rfl⟩
   rw[←hc] at k1
   have hm:col∈cols:=List.mem_of_getElem? k1
   have hm2:col∈metL [] cols:=mem_metL.2 (.inr hm)
   have hlt:=ixL_lt hm2
   have e1:(leastM t).cls.getD b.toNat 0=ixL (metL [] cols) col:=by
    rw[hL,List.getD_eq_getElem?_getD,List.getElem?_map,k1];rfl
   have hol:(oldsM t.cls cols).length=(metL [] cols).length:=by simp[oldsM]
   have e2:=told_step hr ih (c:=ixL (metL [] cols) col) (by rw[hol];exact hlt)
   have e3:(oldsM t.cls cols)[ixL (metL [] cols) col]'(by rw[hol];exact hlt)=t.cls.getD (ixL cols col) 0:=by
    unfold oldsM
    rw[List.getElem_map,ixL_get hm2]
   have hj:ixL cols col<256:=by rw[←hcl];exact ixL_lt hm
   have e4:colM (blM t) t.next (t.cls.getD (ixL cols col) 0)=colM (blM t) t.next (t.cls.getD b.toNat 0):=by
    have:=hcol _ hj
    rw[ixL_some hm] at this
    injection this with this
    rw[←this,hc]
   rw[e3,lead_at h hn (rnT_lt h u (by omega)) hj hb e4] at e2
   rw[rnT_snoc,e1,rnT_snoc]
   rw[show nx (leastM t) (rnT (leastM t) 0 u) (ixL (metL [] cols) col)=(x.2.getD (rnT (leastM t) 0 u) []).getD (ixL (metL [] cols) col) 0 by rw[hL];rfl]
   exact e2
 have h1:=inv u
 have h2:=acc_at h hn (rnT_lt h u (show 0<n by omega))
 rw[←h2]
 unfold ac
 rw[show(leastM t).acc=x.1.map fun b=>t.acc.getD ((blM t).idxOf b) false by rw[hL],List.getD_eq_getElem?_getD,List.getElem?_map,h1];rfl
section
variable {α β γ δ ε:Type} [DecidableEq α] [DecidableEq β] [DecidableEq γ]
end
open Sx (Prt Cnt Res pChain pChoices pPart pAtom pCounts pBounds begins)
theorem lng_ext {L M:Lng} (h:∀ w,L w↔M w):L=M:=funext fun w=>propext (h w)
theorem LC_append (a b:List Prt):LC (a++b)=lCat (LC a) (LC b):=by
 induction a with
 |nil=>exact lng_ext fun w=>by simp only[List.nil_append,LC];exact(lCat_n (fun _=>Iff.rfl) w).symm
 |cons p a ih=>exact lng_ext fun w=>by simp only[List.cons_append,LC,ih];exact(lCat_assoc w).symm
theorem LC_one (p:Prt):LC [p]=LP p:=lng_ext fun w=>by simp only[LC];exact lCat_nil w
theorem LC_toC:∀ t,LC (toC t)=LK t
 |.nil=>by simp[toC,LC,LK]
 |.chr c=>by simp[toC,LC_one,LP,LK,cntsL]
 |.nota=>by simp[toC,LC_one,LP,LK,cntsL]
 |.cat x y=>by simp[toC,LC_append,LC_toC x,LC_toC y,LK]
 |.g1 x cs=>by
  simp only[toC,LC_one,LP,LK,LCs]
  rw[LC_toC x,show lAlt (LK x) l0=LK x from lng_ext fun w=>by simp[lAlt,l0]]
 |.g2 x y cs=>by
  simp only[toC,LC_one,LP,LK,LCs]
  rw[LC_toC x,LC_toC y,show lAlt (LK y) l0=LK y from lng_ext fun w=>by simp[lAlt,l0]]
open Sx (Prt Cnt Res pChain pChoices begins tkR tkB)
open Go.RowKit
theorem num4_len (g:Bool) (n:Nat):(num4 g n).length=4:=by cases g<;>rfl
theorem enc_len (t:Tb) (k:Nat) (g:Bool):(enc t k g).length=(body t k g).length+4:=by simp[enc,num4_len]
structure Tabular (P:Tb→Bool) (cc:List UInt8→Option Nat):Prop where
 f:∀ t,P t=true→∃ c,Fits t c∧1≤c∧cc t.cls=some c
theorem Tabular.fits {P:Tb→Bool}{cc:List UInt8→Option Nat} (h:Tabular P cc):∀ t,P t=true→∃ c,Fits t c:=fun t ht=>let ⟨c,hc,_⟩:=h.f t ht;⟨c,hc⟩
theorem load_self {P:Tb→Bool}{cc:List UInt8→Option Nat} (hP:Tabular P cc) {t:Tb} (ht:P t=true) {k:Nat} (hk:k≤1) (g:Bool):loadM P (enc t k g)=some t:=(loadM_some hP.fits).2 ⟨k,g,hk,ht,rfl⟩
theorem flat_le {α β:Type}{f:α→List β}{c:Nat}:∀ {l:List α},(∀ x∈l,(f x).length≤c)→(l.flatMap f).length≤c*l.length
 |[],_=>by simp
 |x::l,h=>by
  have h1:=flat_le (l:=l) (fun y hy=>h y (by simp[hy]))
  have h2:=h x (by simp)
  rw[List.flatMap_cons,List.length_append,List.length_cons,Nat.mul_succ]
  omega
theorem pr_len2 (g:Bool) (n:Nat):(pr g n).length=2:=by cases g<;>rfl
theorem wrRow_le4 (kind:Nat) (g:Bool) (row:List Int):(wrRow kind g row).length≤2+4*row.length:=by
 unfold wrRow
 split
 ·have h1:=runs_len row
  have h2:=flat_le (f:=wrR g) (c:=4) (l:=runs row) (fun x _=>by simp[wrR,pr_len2])
  rw[List.length_append,pr_len2]
  omega
 ·have h2:=flat_le (f:=fun z:Int=>pr g z.toNat) (c:=2) (l:=row) (fun x _=>by rw[pr_len2];omega)
  omega
theorem enc_size {t:Tb}{c kind:Nat} (g:Bool) (h:Fits t c):274≤(enc t kind g).length∧(enc t kind g).length≤300000:=by
 rw[enc_len]
 have h1:=flat_le (f:=wrRow kind g) (c:=1026) (l:=t.next) (fun r hr=>by
  have h2:=wrRow_le4 kind g r
  have h3:=(h.r r hr).1
  have h4:=h.cc
  omega)
 have h5:=h.n
 have h6:=h.a2
 have h7:=h.cls
 simp only[body,hd,mk5,List.length_append,List.length_cons,List.length_nil,pr_len2,List.length_map]
 omega
abbrev svV (p:Nat) (f b:Bool):Value:=.agg #[.pointer (some ⟨p,0,none⟩),.bool f,.bool b]
theorem set3_blk (w:World) (q:Nat) (a0 a1 a2:Value) {k:Nat} (h:k≠q):(((w.setCell ⟨q,0,none⟩ a0).setCell ⟨q,1,none⟩ a1).setCell ⟨q,2,none⟩ a2).heap[k]?=w.heap[k]?:=by
 rw[set_blk _ _ _ _ h,set_blk _ _ _ _ h,set_blk _ _ _ _ h]
theorem sought_any (w:World) (v:Value) (l:List Int) (ends:Int) (h:Raw w.heap.size w v l) (h1:-9223372036854775808≤ends) (h2:ends≤9223372036854775807) :
  Calls Tryz.prog 30 #[v,.int .i64 ends] w fun e w'=>∃ p f b t,e=.returned (svV p f b)∧HTAt w.heap.size w' p t∧HTOk 4 t∧Below w.heap.size w w':=by
 obtain⟨k,hk,hp⟩:=pk4 h1 h2
 have HP:Hid _:=hp
 have HG:Hid (∀ x,Calls Tryz.prog 27 #[v,.int .i64 4] (w.alloc x) fun e w'=>GrRes w.heap.size (w.alloc x) w' 4 e):=fun x=>grown_any 4 (by omega) _ _ _ _ (by simp) (h.below ((Below.refl _ _).alloc (Nat.le_refl _) _))
 clear hp h
 go_enter Tryz.func30,Tryz.ntmps30
 go_upto_region 2 with(go_at_call 27;refine(HG.out _).mono ?_;rintro e w3 ⟨p,v3,t,l3,rfl,ht,ho,hr,hb⟩;have HT:Hid _:=ht;have HO:Hid _:=ho;have HB:Hid _:=hb;clear ht ho hr hb)
 have hq:w3.heap[w.heap.size]?=some (.cells #[.pointer none,.bool false,.bool false] 62):=(HB.out.block _ (by simp)).trans (heap_alloc_new w _)
 obtain⟨q0,q1,q2⟩:=box3 hq
 have f0:∀ o,w3.frozen? ⟨w.heap.size,o,none⟩=false:=fun o=>by simp[World.frozen?,hq]
 have fa:=f0 0
 have fb:=f0 1
 have fc:=f0 2
 have HQ:Hid _:=hq
 clear hq f0
 rcases hk with rfl|rfl|rfl|rfl
 ·go_wp2_with (go_at_call 21;refine(HP.out _).mono ?_;rintro e w5 ⟨rfl,hw5⟩;obtain rfl:=hw5.symm)
  exact bodyPost_ret (v:=svV p false false) (by simp[results,Tryz.results30,go_sem,q0,q1,q2,fa,fb,fc]) rfl ⟨p,false,false,t,rfl,(HT.out.keep (fun c h1 h2=>set3_blk _ _ _ _ _ (by simp at h1;omega))).mono (by simp),HO.out,(((((Below.refl _ _).alloc (Nat.le_refl _) _).trans (HB.out.mono (by simp))).setCell (Nat.le_refl _) _).setCell (Nat.le_refl _) _).setCell (Nat.le_refl _) _⟩
 ·go_wp2_with (go_at_call 21;refine(HP.out _).mono ?_;rintro e w5 ⟨rfl,hw5⟩;obtain rfl:=hw5.symm)
  exact bodyPost_ret (v:=svV p true false) (by simp[results,Tryz.results30,go_sem,q0,q1,q2,fa,fb,fc]) rfl ⟨p,true,false,t,rfl,(HT.out.keep (fun c h1 h2=>set3_blk _ _ _ _ _ (by simp at h1;omega))).mono (by simp),HO.out,(((((Below.refl _ _).alloc (Nat.le_refl _) _).trans (HB.out.mono (by simp))).setCell (Nat.le_refl _) _).setCell (Nat.le_refl _) _).setCell (Nat.le_refl _) _⟩
 ·go_wp2_with (go_at_call 21;refine(HP.out _).mono ?_;rintro e w5 ⟨rfl,hw5⟩;obtain rfl:=hw5.symm)
  exact bodyPost_ret (v:=svV p false true) (by simp[results,Tryz.results30,go_sem,q0,q1,q2,fa,fb,fc]) rfl ⟨p,false,true,t,rfl,(HT.out.keep (fun c h1 h2=>set3_blk _ _ _ _ _ (by simp at h1;omega))).mono (by simp),HO.out,(((((Below.refl _ _).alloc (Nat.le_refl _) _).trans (HB.out.mono (by simp))).setCell (Nat.le_refl _) _).setCell (Nat.le_refl _) _).setCell (Nat.le_refl _) _⟩
 ·go_wp2_with (go_at_call 21;refine(HP.out _).mono ?_;rintro e w5 ⟨rfl,hw5⟩;obtain rfl:=hw5.symm)
  exact bodyPost_ret (v:=svV p true true) (by simp[results,Tryz.results30,go_sem,q0,q1,q2,fa,fb,fc]) rfl ⟨p,true,true,t,rfl,(HT.out.keep (fun c h1 h2=>set3_blk _ _ _ _ _ (by simp at h1;omega))).mono (by simp),HO.out,(((((Below.refl _ _).alloc (Nat.le_refl _) _).trans (HB.out.mono (by simp))).setCell (Nat.le_refl _) _).setCell (Nat.le_refl _) _).setCell (Nat.le_refl _) _⟩
theorem stext_one (w:World) (p k l m:Nat) (px py:Option Addr) (f b:Bool) (X:ByteArray) (h:w.heap[p]?=some (trB k l m px py)) (hk:k≠3) (hx:TxC w p X) (sX:X.size≤200) :
  Calls Tryz.prog 31 #[svV p f b] w fun e w'=>e=.returned (.string (ba (begP f)++X++ba (endP b)))∧Below w.heap.size w w':=by
 have HP:Hid (∀ w',Below w.heap.size w w'→w'.heap[p]?=some (trB k l m px py)):=fun w' hb=>by rw[hb.block p (some_lt h)];exact h
 have hk3:((k:Int)==3)=false:=by simp;omega
 have a1:¬ 9223372036854775807<1+X.size:=by omega
 have a2:¬ 9223372036854775807<1+X.size+1:=by omega
 have a3:¬ 9223372036854775807<X.size+1:=by omega
 obtain⟨w1,hw1⟩:∃ w1,w1=w.alloc (.cells #[.pointer (some ⟨p,0,none⟩),.bool f,.bool b] 62):=⟨_,rfl⟩
 have HW1:Hid _:=hw1
 have HB1:Hid (Below w.heap.size w w1):=by rw[hw1];exact(Below.refl _ _).alloc (Nat.le_refl _) _
 have HX1:Hid (∀ w',Below w1.heap.size w1 w'→w'.heap[w.heap.size]?=some (.cells #[.pointer (some ⟨p,0,none⟩),.bool f,.bool b] 62)):=fun w' hb=>by rw[hb.block _ (by rw[hw1];simp),hw1];exact heap_alloc_new w _
 have hs1:=HX1.out w1 (Below.refl _ _)
 obtain⟨s0,s1,s2⟩:=box3 hs1
 clear hw1 hs1 h
 go_enter Tryz.func31,Tryz.ntmps31
 go_upto_region 1 with(fail)
 rw[←HW1.out]
 cases f<;>cases b
 all_goals
  go_wp2_with (go_at_call 28;refine(hx _ HB1.out).mono ?_;rintro e w3 ⟨rfl,l3⟩;have HB3:Hid (Below w.heap.size w w3):=HB1.out.trans (l3.mono HB1.out.size);obtain⟨y0,y1,y2,y3,y4⟩:=box5 (HP.out w3 HB3.out);obtain⟨z0,z1,z2⟩:=box3 (HX1.out w3 l3);clear l3)
  go_ret
  refine⟨?_,HB3.out⟩
  simp[begP,endP]
  try (apply ByteArray.ext;simp[ByteArray.data_append])
theorem stext_cat (w:World) (p l m px py:Nat) (f b:Bool) (X Y:ByteArray) (h:w.heap[p]?=some (trB 3 l m (some ⟨px,0,none⟩) (some ⟨py,0,none⟩))) (ht:TxC w p (X++Y)) (hx:TxC w px X) (hy:TxC w py Y) (sX:X.size≤200) (sY:Y.size≤200) :
  Calls Tryz.prog 31 #[svV p f b] w fun e w'=>e=.returned (.string (ba (begP f)++(X++Y)++ba (endP b)))∧Below w.heap.size w w':=by
 have HP:Hid (∀ w',Below w.heap.size w w'→w'.heap[p]?=some (trB 3 l m (some ⟨px,0,none⟩) (some ⟨py,0,none⟩))):=fun w' hb=>by rw[hb.block p (some_lt h)];exact h
 have a0:¬ 9223372036854775807<X.size+Y.size:=by omega
 have hsz:(X++Y).size=X.size+Y.size:=ByteArray.size_append
 obtain⟨Z,hZ⟩:∃ Z,Z=X++Y:=⟨_,rfl⟩
 have HZ:Hid (X++Y=Z):=hZ.symm
 rw[←hZ] at hsz ht ⊢
 have a1:¬ 9223372036854775807<1+Z.size:=by omega
 have a2:¬ 9223372036854775807<1+Z.size+1:=by omega
 have a3:¬ 9223372036854775807<Z.size+1:=by omega
 clear hZ hsz
 obtain⟨w1,hw1⟩:∃ w1,w1=w.alloc (.cells #[.pointer (some ⟨p,0,none⟩),.bool f,.bool b] 62):=⟨_,rfl⟩
 have HW1:Hid _:=hw1
 have HB1:Hid (Below w.heap.size w w1):=by rw[hw1];exact(Below.refl _ _).alloc (Nat.le_refl _) _
 have HX1:Hid (∀ w',Below w1.heap.size w1 w'→w'.heap[w.heap.size]?=some (.cells #[.pointer (some ⟨p,0,none⟩),.bool f,.bool b] 62)):=fun w' hb=>by rw[hb.block _ (by rw[hw1];simp),hw1];exact heap_alloc_new w _
 have hs1:=HX1.out w1 (Below.refl _ _)
 obtain⟨s0,s1,s2⟩:=box3 hs1
 clear hw1 hs1 h
 go_enter Tryz.func31,Tryz.ntmps31
 go_upto_region 1 with(fail)
 rw[←HW1.out]
 go_upto_region 3 with(go_at_call 28;refine(ht _ HB1.out).mono ?_;rintro e w3 ⟨rfl,l3⟩;have HB3:Hid (Below w.heap.size w w3):=HB1.out.trans (l3.mono HB1.out.size);have HL3:Hid (Below w1.heap.size w1 w3):=l3;obtain⟨y0,y1,y2,y3,y4⟩:=box5 (HP.out w3 HB3.out);obtain⟨z0,z1,z2⟩:=box3 (HX1.out w3 l3);clear l3)
 go_cut [3] from 13 to 25 (fun u3 wc=>u3=.string Z∧Below w1.heap.size w1 wc)
 case first=>
  go_region_held3 (fun w'=>w'.cell? ⟨p,3,none⟩=some (.pointer (some ⟨px,0,none⟩))∧w'.cell? ⟨p,4,none⟩=some (.pointer (some ⟨py,0,none⟩))∧w'.cell? ⟨w.heap.size,0,none⟩=some (.pointer (some ⟨p,0,none⟩))) (go_keep)
   (first|(have:=hmark;go_at_call 28;refine(hy _ HB4.out).mono ?_;rintro e w5 ⟨rfl,l5⟩;have HL5:Hid (Below w1.heap.size w1 w5):=HL4.out.trans (l5.mono HL4.out.size);have HB5:Hid (Below w.heap.size w w5):=HB1.out.trans (HL5.out.mono HB1.out.size);obtain⟨-,-,-,v3,v4⟩:=box5 (HP.out w5 HB5.out);obtain⟨v0,-,-⟩:=box3 (HX1.out w5 HL5.out))|(go_at_call 28;refine(hx _ HB3.out.drew).mono ?_;rintro e w4 ⟨rfl,l4⟩;have hmark:True:=trivial;have HL4:Hid (Below w1.heap.size w1 w4):=HL3.out.drew.trans (l4.mono HL3.out.size);have HB4:Hid (Below w.heap.size w w4):=HB1.out.trans (HL4.out.mono HB1.out.size);obtain⟨-,-,-,x3,x4⟩:=box5 (HP.out w4 HB4.out);obtain⟨x0,-,-⟩:=box3 (HX1.out w4 HL4.out);clear l4))
  all_goals
   go_wp2
   go_meet
   exact⟨by rw[HZ.out],HL5.out⟩
 case rest=>
 obtain⟨rfl,hlc⟩:=hcut
 obtain⟨r0,r1,r2⟩:=box3 (HX1.out wc hlc)
 have HBC:Hid (Below w.heap.size w wc):=HB1.out.trans (hlc.mono HB1.out.size)
 clear hlc
 cases f<;>cases b
 all_goals
  go_wp2
  go_ret
  refine⟨?_,HBC.out⟩
  simp[begP,endP]
  try (apply ByteArray.ext;simp[ByteArray.data_append])
theorem stext_any {t:HT} (hok:HTOk 4 t) {lo p:Nat}{w:World} (h:HTAt lo w p t) (f b:Bool) :
  Calls Tryz.prog 31 #[svV p f b] w fun e w'=>e=.returned (.string (ba (begP f++(tx (kt t)++endP b))))∧Below w.heap.size w w':=by
 have hlen:(tx (kt t)).length≤109:=(tx_len hok).1
 have hT:TxC w p (ba (tx (kt t))):=fun w' hw'=>text_any hok (by omega) (h.below hw')
 have hsz:(ba (tx (kt t))).size≤200:=by rw[ba_size];omega
 rw[show begP f++(tx (kt t)++endP b)=begP f++tx (kt t)++endP b by simp,←ba_cat,←ba_cat]
 match t,hok,h,hT,hsz,hlen with
 |.lf k l m,hok,h,hT,hsz,_=>
  simp only[HTAt] at h
  simp only[HTOk] at hok
  exact stext_one w p k l m none none f b _ h.2 (by omega) hT hsz
 |.un k l m x,hok,h,hT,hsz,_=>
  simp only[HTAt] at h
  simp only[HTOk] at hok
  obtain⟨-,px,hb,hx⟩:=h
  exact stext_one w p k l m _ none f b _ hb (by omega) hT hsz
 |.bi k l m x y,hok,h,hT,hsz,hlen=>
  simp only[HTAt] at h
  simp only[HTOk] at hok
  obtain⟨-,px,py,hb,hx,hy⟩:=h
  rcases hok.1 with rfl|rfl
  ·simp only[kt,if_true,tx,List.length_append] at hlen hT ⊢
   rw[←ba_cat] at hT ⊢
   exact stext_cat w p l m px py f b _ _ hb hT (fun w' hw'=>text_any hok.2.2.2.1 (by omega) (hx.below hw')) (fun w' hw'=>text_any hok.2.2.2.2 (by omega) (hy.below hw')) (by rw[ba_size];omega) (by rw[ba_size];omega)
  ·exact stext_one w p 4 l m _ _ f b _ hb (by omega) hT hsz
theorem tabular_is:Tabular isTb (fun l=>cntR (ba l)):=⟨fun t ht=>by
 obtain⟨c,h⟩:=tbOk_of ht
 refine⟨c,h.fits,?_,h.cc⟩
 have hc:=h.c256
 have:=h.cls 0
 omega⟩
theorem Raw.grow {B B':Nat}{w:World}{v:Value}{l:List Int} (h:Raw B w v l) (hB:B≤B'):Raw B' w v l:=⟨h.r,h.c,h.b,h.n,fun b o n c e=>(h.o b o n c e).imp id (fun q=>Nat.lt_of_lt_of_le q hB)⟩
abbrev ptx (t:HT) (f b:Bool):List UInt8:=begP f++(tx (kt t)++endP b)
theorem ptx_len {t:HT} (h:HTOk 4 t) (f b:Bool):(ptx t f b).length≤111:=by
 have:=(tx_len h).1
 have h1:(begP f).length≤1:=by cases f<;>simp[begP]
 have h2:(endP b).length≤1:=by cases b<;>simp[endP]
 simp[szK] at this
 simp;omega
theorem ptx_comp {t:HT} (h:HTOk 4 t) (f b:Bool):(compM (ptx t f b) 200=.inl (4,0)∧searchM ⟨f,b,[toC (kt t)]⟩ 200=none)∨∃ T n k,compM (ptx t f b) 200=.inr (tbOf (leastM T))∧TnFull n k T∧n≤200∧k≤256∧T.front=f∧T.back=b∧∀ u,ac T (rnT T 0 u)=true↔endsAt f (LCs [toC (kt t)]) u:=by
 refine compM_ptn (readP_one (kt_ok h) f b) ?_ ?_
 ·have:=ptx_len h f b;omega
 ·have:=(tx_len h).2
  simp only[Sx.nestCs,nestC_toC]
  omega
theorem sought_at {w W:World}{v:Value}{l:List Int}{ends:Int} (h:Raw w.heap.size w v l) (hW:Below w.heap.size w W) (h1:-9223372036854775808≤ends) (h2:ends≤9223372036854775807):Calls Tryz.prog 30 #[v,.int .i64 ends] W fun e w'=>∃ p f b t,e=.returned (svV p f b)∧HTAt W.heap.size w' p t∧HTOk 4 t∧Below W.heap.size W w':=sought_any W v l ends ((h.below hW).grow hW.size) h1 h2
end Go.Proofs.YtbjabpodkaokjaaGreatDoor
